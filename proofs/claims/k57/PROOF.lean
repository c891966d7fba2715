import PyProof.Rows.All
import Wide.All
import OpenK.AllK
import Wide.FinOn
import PyProof.EqAt
import PyProof.EqKinds
import PyProof.TupleCall
import PyProof.ReprRoads
import HandS.ForMost
import HandS.IsInst
import HandS.Wide
import HandS.WideBits
import HandS.TupAny
import HandS.TupLe
import HandS.Walk
import HandS.Codes
import HandS.Evl
import HandS.SetFor
import HandS.Strs
import HandS.Zip
import HandS.Style
import HandS.Conv
import KE.KRevSl
import PyProof.WalksMore
import HandS.ExcInit
import HandS.ExcOwn
import HandS.ExcField
import HandS.TryMany
import HandS.ExcCtx
import KE.KExcInit
import HandS.SortKw
import HandS.TupSets
import HandS.Small
import HandS.Iter
import PyProof.Rows.SumGenD
import KE.KExcIs
import HandS.ExcIs
import HandS.ExcValue
import HandS.HotCalls
import HandS.Star
import HandS.Property
import KE.GoesEnum
import HandS.TupMul
import HandS.NoneIn
import KE.KDictPairs
import HandS.Defaults
import HandS.ListItems
import HandS.SortInts
import HandS.DictComp
import HandS.More
import HandS.OwnEq
import PyProof.DictUpdate
import PyProof.NeKinds
import KE.KEqDict
import KE.KDictZip
import PyProof.ListNew
import HandS.DictTup
import HandS.TryOnly
import KE.DatumOrd
import KE.KOpsOwn
import KE.GoesMore
import KE.KIndexOf
import HandS.SortRule
import KE.KTupSum
import KE.KDictList
import HandS.DeepEq
import KE.KEqNest
import PyProof.DictWalks
import PyProof.WalkInts
import PyProof.MinMaxWalk
import HandS.OwnIter
import KE.KDictIter
import KE.KCallOwn
import HandS.FStr
import HandS.WordsExc
import PyProof.StrLawsRepr
import HandS.ListEq
import HandS.Lambda
import HandS.HeadHook4
import HandS.Head2
import KE.KStateDown
import PySem.Challenge.RW_chainpacks_k57_whole_papers_of_parts
set_option Elab.async false
set_option linter.all false
set_option maxRecDepth 100000
set_option maxHeartbeats 4000000
namespace Ck
open PySem PySem.Spec PyProof.Rows L2
theorem bt_abs : bootBuiltins "abs" = some (.builtin "abs") := by decide +kernel
theorem bt_all : bootBuiltins "all" = some (.builtin "all") := by decide +kernel
theorem bt_any : bootBuiltins "any" = some (.builtin "any") := by decide +kernel
theorem bt_bool : bootBuiltins "bool" = some (.type "bool") := by decide +kernel
theorem bt_int : bootBuiltins "int" = some (.type "int") := by decide +kernel
theorem bt_str : bootBuiltins "str" = some (.type "str") := by decide +kernel
theorem bt_list : bootBuiltins "list" = some (.type "list") := by decide +kernel
theorem bt_tuple : bootBuiltins "tuple" = some (.type "tuple") := by decide +kernel
theorem bt_set : bootBuiltins "set" = some (.type "set") := by decide +kernel
theorem bt_isinstance : bootBuiltins "isinstance" = some (.builtin "isinstance") := by decide +kernel
theorem bt_len : bootBuiltins "len" = some (.builtin "len") := by decide +kernel
theorem bt_max : bootBuiltins "max" = some (.builtin "max") := by decide +kernel
theorem bt_min : bootBuiltins "min" = some (.builtin "min") := by decide +kernel
theorem bt_sum : bootBuiltins "sum" = some (.builtin "sum") := by decide +kernel
theorem bt_sorted : bootBuiltins "sorted" = some (.builtin "sorted") := by decide +kernel
def Df (K : PySem.W.Frag) (mg : Str → Option Value) (x : Str) (st : Stmt) (ps : List Str) : Prop :=
  ∃ f fd, Fun K x x st f fd ∧ mg x = some (.ref f) ∧ Binds K fd ps []
def Cl (P : Program) (w : World) (K : PySem.W.Frag) (mg : Str → Option Value) (base : Heap) (k : Nat) (x : Str) (sp : Sp) : Prop :=
  ∃ f fd ps, FnOk P w K mg base CX0 k f fd ps sp ∧ mg x = some (.ref f) ∧ PySem.W.keepIn K (.ref f) = true ∧ Binds K fd ps []
section
variable {P : Program} {w : World} {K : PySem.W.Frag} {mg : Str → Option Value} {base : Heap}
theorem cl_of {x : Str} {st : Stmt} {N ps : List Str} {k : Nat} {sp : Sp} (D : Df K mg x st ps) (S : FnScope N ps (defScope st)) (len : ∀ vs H Q E, sp vs H Q E → vs.length = ps.length)
    (hbody : ∀ (f : Addr) (cdv : Value) (A : Around) (outer : List Env) (s : Shared) (H : Hp) (vs : List V) (Q : VK) (E : XK), Room k (A.deeper (envOfC x (defScope st) s.heap.objs.size f cdv)) → sp vs H Q E →
      ∃ t, PSs (cxOf CX0 P w K mg base N x (defScope st) f cdv A outer s H E).nox (defBody st) t ∧ t { nx := fun _ H' => Q .non H', rt := Q } (start N vs) H) : Cl P w K mg base (k + 1) x sp := by
  obtain ⟨f, fd, F, g, b⟩ := D
  exact ⟨f, fd, ps, F.ok S len (hbody f), g, F.kp, b⟩
end
section
variable {X : Cx} {k j : Nat} {x : Str} {sp : Sp} {p pos : Pos} {e : Expr} {es : List Expr} {t : TA}
theorem pcal (c : Cl X.prog X.w X.K X.mg X.base k x sp) (hr : Room j X.A) (ha : PA X (e :: es) t) (hk : k ≤ j := by decide) (hg : Gl X x := by rfl)
    (hdb : (x == ("__debug__" : Str)) = false := by decide) (he : starEach (e :: es) X.env = (false, eval e X.env) :: starEach es X.env := by rfl) (hpl : (backTo pos (starEach es X.env)).any (·.1) = false := by rfl) :
    PE X (.Call (.Name x p) (e :: es) [] pos) (tCall sp [] E0 t) := by
  obtain ⟨f, fd, ps, F, hm, kp, b⟩ := c
  exact pe_call F (hr.mono hk) hg hm kp b .nil pass0 ha hdb he hpl
theorem pe_gc2 {v : V} (hg : Gl X x) (h : ∃ u, X.mg x = some u ∧ RelV v u) (hd : (x == ("__debug__" : Str)) = false := by decide) : PE X (.Name x pos) (tC v) := by
  obtain ⟨u, h1, h2⟩ := h
  exact pe_glob hg h1 h2 hd
end

end Ck

namespace Ck
open PySem PySem.Spec PyProof.Rows L2
structure FnG (P : Program) (w : World) (K : PySem.W.Frag) (mg : Str → Option Value) (base : Heap) (C : CXT) (k : Nat)
    (f : Addr) (fd : FuncData) (ps : List Str) (sp : Sp) : Prop where
  len : ∀ vs H Q E, sp vs H Q E → vs.length = ps.length
  run : ∀ (A : Around) (fr : List Env) (s : Shared) (H : Hp) (args : Args) (us : List Value) (vs : List V) (Q : VK) (E : XK),
    Room k A → A.guards = some [] → Env0 P w K mg base A fr s H → BindsTo s fd args (ps.zip us) → Vals vs us →
    sp vs H Q E → codeAny (model P w) A (.call (.ref f) args) (CR C fr P w H s Q E) s
section
variable {P : Program} {w : World} {K : PySem.W.Frag} {mg : Str → Option Value} {base : Heap} {C : CXT} {k : Nat}
  {f : Addr} {fd : FuncData} {ps : List Str} {sp : Sp}
theorem FnG.of (F : FnOk P w K mg base C k f fd ps sp) : FnG P w K mg base C k f fd ps sp :=
  ⟨F.len, fun A fr s H args us vs Q E r _ e b v h => F.run A fr s H args us vs Q E r e b v h⟩
theorem Fun.okG {x qual : Str} {st : Stmt} {N : List Str} (F : Fun K x qual st f fd) (S : FnScope N ps (defScope st))
    (len : ∀ vs H Q E, sp vs H Q E → vs.length = ps.length)
    (hbody : ∀ (cdv : Value) (A : Around) (fr : List Env) (s : Shared) (H : Hp) (vs : List V) (Q : VK) (E : XK),
      Room k (A.deeper (envOfC qual (defScope st) s.heap.objs.size f cdv)) → A.guards = some [] → sp vs H Q E →
      ∃ t, PSs (cxOf C P w K mg base N qual (defScope st) f cdv A fr s H E) (defBody st) t ∧
        t { nx := fun _ H' => Q .non H', rt := Q } (start N vs) H) : FnG P w K mg base C (k + 1) f fd ps sp := by
  obtain ⟨oc, od, kV, doc, pm, an, cdv, ct, osl, rfl, lk, hcd⟩ := F.ex
  constructor
  case len => exact len
  case run =>
    intro A fr s H args us vs Q E r g e b rv h
    have KX : K.In s.heap := e.mod.kin.keeps (fun c o q => (e.bs c o q).1)
    have lim : s.heap.NoLimit := e.mod.nolimit.keeps (fun c o q => (e.bs c o q).1)
    have hl := len vs H Q E h
    have knd : ∀ y ∈ ps.zip us, (defScope st).names.lookup y.1 = some .local ∨
        ((defScope st).names.lookup y.1 = some .cell ∧ ((cellsFrom (s.heap.objs.size + 1) (defScope st).names []).lookup y.1).isSome = true) := by
      intro y hy
      have hp := (List.of_mem_zip (a := y.1) (b := y.2) hy).1
      cases S.par y.1 hp with
      | inl q => exact Or.inl q
      | inr q => exact Or.inr ⟨q, PySem.W.cellsFrom_some _ _ _ (Or.inl q)⟩
    refine codeAny_call_function r.depth (KX f _ lk) rfl S.co S.gen rfl
      (PySem.W.codeRec_of KX hcd) (b _ _ _ _ (wpAny_newFunctionEnv_cells S.kind knd (fun env he s1 x => ?_)))
    cases he
    refine ⟨lim.keeps x.toInCall.keep, codeAny_func ?_⟩
    obtain ⟨t, ht, hq⟩ := hbody cdv A fr s H vs Q E (r.deeper _) g h
    have I := inv_start (CX := C) (E := E) S r.hd e hl rv x
    refine wpAny_mono (ht.run [] s1 (start N vs) H _ I hq) ?_ (fun _ _ z => z)
    intro fl s' hs
    cases fl with
    | brk => obtain ⟨_, _, _, z⟩ := hs; exact z.elim
    | cont => obtain ⟨_, _, _, z⟩ := hs; exact z.elim
    | ret u =>
      obtain ⟨v, σ', H', J, rr, z⟩ := hs
      exact ⟨v, H', J.os, J.bare, J.base, J.hok, rr, z⟩
    | next =>
      obtain ⟨σ', H', J, z⟩ := hs
      exact ⟨V.non, H', J.os, J.bare, J.base, J.hok, rfl, z⟩
end

def Cg (P : Program) (w : World) (K : PySem.W.Frag) (mg : Str → Option Value) (base : Heap) (C : CXT) (k : Nat) (x : Str) (sp : Sp) : Prop :=
  ∃ f fd ps, FnG P w K mg base C k f fd ps sp ∧ mg x = some (.ref f) ∧ PySem.W.keepIn K (.ref f) = true ∧ Binds K fd ps []
section
variable {P : Program} {w : World} {K : PySem.W.Frag} {mg : Str → Option Value} {base : Heap}
theorem cg_of {x : Str} {st : Stmt} {N ps : List Str} {k : Nat} {sp : Sp} (D : Df K mg x st ps) (S : FnScope N ps (defScope st))
    (len : ∀ vs H Q E, sp vs H Q E → vs.length = ps.length)
    (hbody : ∀ (f : Addr) (cdv : Value) (A : Around) (fr : List Env) (s : Shared) (H : Hp) (vs : List V) (Q : VK) (E : XK),
      Room k (A.deeper (envOfC x (defScope st) s.heap.objs.size f cdv)) → A.guards = some [] → sp vs H Q E →
      ∃ t, PSs (cxOf CX0 P w K mg base N x (defScope st) f cdv A fr s H E).nox (defBody st) t ∧
        t { nx := fun _ H' => Q .non H', rt := Q } (start N vs) H) : Cg P w K mg base CX0 (k + 1) x sp := by
  obtain ⟨f, fd, F, g, b⟩ := D
  refine ⟨f, fd, ps, Fun.okG F S len fun cdv A fr s H vs Q E r gd h => ?_, g, F.kp, b⟩
  obtain ⟨t, h1, h2⟩ := hbody f cdv A fr s H vs Q E r gd h
  exact ⟨t, h1.nox, h2⟩
end
section
variable {X : Cx} {C : CXT} {k j : Nat} {x : Str} {f : Addr} {fd : FuncData} {ps : List Str} {sp : Sp} {E : XK} {p pos : Pos} {e : Expr} {es : List Expr} {t : TA}
theorem run_fng {pins : List (Addr × Obj)} {σ : L2.St} {H : Hp} {s : Shared} {Q : VK} {us : List Value} {vs : List V}
    (F : FnG X.prog X.w X.K X.mg X.base C k f fd ps sp) (hr : Room k X.A) (hg : X.A.guards = some []) (hb : Binds X.K fd ps []) (hx : Passes C X E)
    (I : Inv X pins σ H s) (r : Vals vs us) (h : sp vs H Q E) :
    wpAny (model X.prog X.w) X.A (call (.ref f) us) (EP X pins σ Q) X.xe s := by
  have hl : us.length = ps.length := r.length.symm.trans (F.len vs H Q E h)
  have bd : BindsTo s fd ⟨us, []⟩ (ps.zip us) := by
    have z := hb s us I.kIn (by rw [List.append_nil]; exact hl)
    rw [List.append_nil] at z
    exact z
  refine wpAny_call (codeAny_mono (F.run X.A X.stack s H ⟨us, []⟩ us vs Q E hr hg I.env0 bd r h) ?_)
  intro res s' hq
  match res, hq with
  | .ok (.ret u), hq => exact I.after hq
  | .ok .next, hq => exact hq.elim
  | .ok .brk, hq => exact hq.elim
  | .ok .cont, hq => exact hq.elim
  | .error e, hq => exact hx pins σ H s e s' I hq
theorem pcg (c : Cg X.prog X.w X.K X.mg X.base CX0 k x sp) (hr : Room j X.A) (hgd : X.A.guards = some []) (ha : PA X (e :: es) t) (hk : k ≤ j := by decide) (hg : Gl X x := by rfl)
    (hdb : (x == ("__debug__" : Str)) = false := by decide) (he : starEach (e :: es) X.env = (false, eval e X.env) :: starEach es X.env := by rfl) (hpl : (backTo pos (starEach es X.env)).any (·.1) = false := by rfl) :
    PE X (.Call (.Name x p) (e :: es) [] pos) (tCall sp [] E0 t) := by
  obtain ⟨f, fd, ps, F, hm, kp, b⟩ := c
  constructor
  intro pins s σ H Q I h
  refine wpAny_Call_Name_kw (ld_glob I hg hm ?_ hdb)
  refine PySem.W.callWith_K (h₀ := X.base) I.ok.mod.kin kp (thn (ha.run pos pins s σ H _ I h) ?_) he hpl
  rintro us s1 ⟨vs, H1, I1, r, q⟩
  refine ⟨I1.kIn, run_fng F (hr.mono hk) hgd b pass0 I1 r ?_⟩
  have z : sp (vs ++ []) H1 Q E0 := q
  rw [List.append_nil] at z
  exact z
end
end Ck

namespace Ck
open PySem PySem.Spec PyProof.Rows L2
abbrev Fine (s₁ : Shared) (r : Result) (s' : Shared) : Prop := r = .ok (.ret (.bool true)) ∧ OldK s₁.heap s'.heap ∧ s'.os = s₁.os ∧ AllBare s'.gens
section
variable {P : Program} {w : World} {K : PySem.W.Frag} {mg mb : Str → Option Value} {k : Nat} {fa a : Addr} {fd : FuncData} {x : Str} {sp : Sp} {s₁ : Shared} {vs : List Value} {ns : List Int}
end
end Ck

namespace Ck
open PySem PySem.Spec PyProof.Rows L2
def Dice (H : Hp) (d : Addr) : Prop := ∃ a b c : Int, H d = some (.lst [.int a, .int b, .int c])
def But (d : Addr) (H H' : Hp) : Prop := ∀ b, b ≠ d → H' b = H b
def Kp (d : Addr) (H H' : Hp) : Prop := ∀ b o, b ≠ d → H b = some o → H' b = some o
theorem But.kp {d : Addr} {H H' : Hp} (h : But d H H') : Kp d H H' := fun b o n e => (h b n).trans e
theorem Kp.refl (d : Addr) (H : Hp) : Kp d H H := fun _ _ _ e => e
theorem Kp.trans {d : Addr} {H H1 H2 : Hp} (a : Kp d H H1) (b : Kp d H1 H2) : Kp d H H2 := fun c o n e => b c o n (a c o n e)
theorem Kp.mut {d p : Addr} {H H' : Hp} {o : HO} (k : Kp d H H') (h : H p = none) : Kp d H (upd H' p o) := fun b u n e => by
  rw [upd_ne (ne_of_none e h)]; exact k b u n e
theorem Dice.ne {d p : Addr} {H : Hp} (h : Dice H d) (n : H p = none) : p ≠ d := by
  obtain ⟨a, b, c, e⟩ := h
  exact fun z => by rw [z, e] at n; cases n
theorem Dice.new {d p : Addr} {H : Hp} {o : HO} (h : Dice H d) (n : H p = none) : Dice (upd H p o) d := by
  have z := h.ne n
  obtain ⟨a, b, c, e⟩ := h
  exact ⟨a, b, c, by rw [upd_ne z.symm]; exact e⟩
theorem Dice.put {d p : Addr} {H : Hp} {o : HO} (h : Dice H d) (n : p ≠ d) : Dice (upd H p o) d := by
  obtain ⟨a, b, c, e⟩ := h
  exact ⟨a, b, c, by rw [upd_ne n.symm]; exact e⟩
theorem Dice.at {d : Addr} {H : Hp} {a b c : Int} : Dice (upd H d (.lst [.int a, .int b, .int c])) d := ⟨a, b, c, upd_same⟩
theorem But.put {d : Addr} {H : Hp} {o : HO} : But d H (upd H d o) := fun b n => upd_ne n
theorem But.sqL {K : PySem.W.Frag} {d a : Addr} {H H' : Hp} {xs : List V} (k : But d H H') (n : a ≠ d) (h : SqL K H a xs) : SqL K H' a xs := by
  rcases h with (h | ⟨o, h⟩) | h
  · exact .inl (.inl ((k a n).trans h))
  · exact .inl (.inr ⟨o, (k a n).trans h⟩)
  · exact .inr h
theorem Kp.sqT {K : PySem.W.Frag} {d a : Addr} {H H' : Hp} {xs : List V} (k : Kp d H H') (n : a ≠ d) (h : SqT K H a xs) : SqT K H' a xs := by
  rcases h with (h | ⟨o, h⟩) | h
  · exact .inl (.inl (k a _ n h))
  · exact .inl (.inr ⟨o, k a _ n h⟩)
  · exact .inr h
def spRoll : Sp := fun vs H Q _ => ∃ d t, vs = [.ref d, .int t] ∧ 0 < t ∧ t < 1073741824 ∧ Dice H d ∧
  ∀ r H', 0 ≤ r → r < t → Dice H' d → But d H H' → Q (.int r) H'
def spDice (K : PySem.W.Frag) : Sp := fun vs H Q _ => ∃ (a : Addr) (k : Nat) (ns : List Int), vs = [.ref a, .int (k : Int)] ∧ SqL K H a (ns.map V.int) ∧
  ∀ d, H d = none → ∀ H', Dice H' d → But d H H' → Q (.ref d) H'
theorem at_int {ns : List Int} {k : Nat} (h : ((k : Nat) : Int) < ((ns.map V.int).length : Int)) : ∃ i, atI (ns.map V.int) (k : Int) = some (.int i) := by
  have h1 : k < ns.length := by rw [List.length_map] at h; omega
  exact ⟨ns[k], atI_nat (by rw [List.getElem?_map, List.getElem?_eq_getElem h1]; rfl)⟩
theorem ten60 : CMulW ((10 : Int) ^ (60 : Int).toNat) ((10 : Int) ^ (60 : Int).toNat) := by unfold CMulW; decide +kernel
theorem pow_ok {i j : Int} (h : (decide (0 ≤ j) && decide (j ≤ 1000000) && decide (i.natAbs < 2 ^ 64)) = true) : CPow i j := by
  simp only [Bool.and_eq_true, decide_eq_true_eq] at h
  exact ⟨h.1.1, h.1.2, h.2⟩
theorem r_mod {Q : VK} {H : Hp} {i j : Int} (hj : 0 < j) (h : ∀ r, 0 ≤ r → r < j → Q (.int r) H) : rI (fun _ j => 0 < j) (fun i j => .int (i % j)) (.int i) (.int j) H Q :=
  ⟨i, j, rfl, rfl, hj, h _ (Int.emod_nonneg _ (by omega)) (Int.emod_lt_of_pos _ hj)⟩
theorem r_modC {Q : VK} {σ : L2.St} {H : Hp} {i j : Int} (hj : 0 < j) (h : ∀ r, 0 ≤ r → r < j → Q (.int r) H) :
    tC (.int j) σ H (fun y H2 => rI (fun _ j => 0 < j) (fun i j => .int (i % j)) (.int i) y H2 Q) := r_mod hj h
theorem join {c : Prop} [Decidable c] {ta tb : TE} {σ : L2.St} {H : Hp} {Q : VK} (p : V → Prop) (hq : ∀ v, p v → Q v H) (h1 : c → ∀ Q' : VK, (∀ v, p v → Q' v H) → ta σ H Q')
    (h2 : ¬ c → ∀ Q' : VK, (∀ v, p v → Q' v H) → tb σ H Q') : if decide c = true then ta σ H Q else tb σ H Q := by
  by_cases h : c
  · rw [decide_eq_true h]; exact iteT (h1 h Q hq)
  · rw [decide_eq_false h]; exact iteF (h2 h Q hq)
abbrev IsI (v : V) : Prop := ∃ i : Int, v = .int i
theorem at_in {α : Type} {xs : List α} {r : Int} (h0 : 0 ≤ r) (h : r < (xs.length : Int)) : ∃ x, x ∈ xs ∧ atI xs r = some x := by
  have hr : r.toNat < xs.length := by omega
  refine ⟨xs[r.toNat], List.getElem_mem hr, ?_⟩
  have z := atI_nat (xs := xs) (j := r.toNat) (List.getElem?_eq_getElem hr)
  rwa [show ((r.toNat : Nat) : Int) = r by omega] at z
theorem ifd {c : Prop} [Decidable c] {A B : Prop} (h1 : c → A) (h2 : ¬ c → B) : if decide c = true then A else B := by
  by_cases h : c
  · rw [decide_eq_true h]; exact iteT (h1 h)
  · rw [decide_eq_false h]; exact iteF (h2 h)
end Ck

namespace Ck
open PySem PySem.Spec PyProof.Rows L2
section
variable {σ : L2.St} {H : Hp} {ta tb tc : TE} {t u : TT} {x y v : V} {K : PySem.W.Frag} {a b c : Int} {p q : Bool}
variable {D : Ends} {s r z : TS}
theorem nt {b : Bool} (h : (!b) = true) : b = false := by cases b with | true => cases h | false => rfl
theorem nf {b : Bool} (h : (!b) = false) : b = true := by cases b with | true => rfl | false => cases h
theorem yes_go {Q : Bool → Hp → Prop} (h : Q true H) : tYes σ H Q := h
theorem if_b {A B : Prop} (p : Bool) (h1 : p = true → A) (h2 : p = false → B) : if p = true then A else B := by
  cases p with
  | true => exact iteT (h1 rfl)
  | false => exact iteF (h2 rfl)
end
end Ck

namespace Ck
open PySem PySem.Spec PyProof.Rows L2 Evl
section
variable {K : PySem.W.Frag} {H H' : Hp}
mutual
theorem dpM (e : Ex H H') : ∀ {v : V} {d : PyData}, Dp K H v d → Dp K H' v d
  | _, _, .non => .non
  | _, _, .bl b => .bl b
  | _, _, .int i => .int i
  | _, _, .str x => .str x
  | _, _, .lst h a => .lst (ex_l e h) (dpaM e a)
  | _, _, .tup h a => .tup (ex_t e h) (dpaM e a)
theorem dpaM (e : Ex H H') : ∀ {vs : List V} {ds : List PyData}, DpAll K H vs ds → DpAll K H' vs ds
  | _, _, .nil => .nil
  | _, _, .cons h t => .cons (dpM e h) (dpaM e t)
end
end
def Ed (K : PySem.W.Frag) (te : TE) (σ : L2.St) (H : Hp) (d : PyData) : Prop := ∀ H1, Ex H H1 → ∀ Q : VK, (∀ v H2, Ex H1 H2 → Dp K H2 v d → Q v H2) → te σ H1 Q
def EdA (K : PySem.W.Frag) (ta : TA) (σ : L2.St) (H : Hp) (ds : List PyData) : Prop := ∀ H1, Ex H H1 → ∀ Q : List V → Hp → Prop, (∀ vs H2, Ex H1 H2 → DpAll K H2 vs ds → Q vs H2) → ta σ H1 Q
section
variable {K : PySem.W.Frag} {σ : L2.St} {H H' : Hp} {ta tb te tc : TE} {tr : TA} {t u : TT} {x y z v : V} {d e : PyData} {ds : List PyData} {a b c : Int} {p q : Bool}
theorem ed_of (h : Ev te σ H v) (hd : Dp K H v d) : Ed K te σ H d := fun H1 e Q q => h H1 e Q fun H2 e2 => q v H2 e2 (dpM (e.trans e2) hd)
theorem ed_int (h : Ev te σ H (.int a)) : Ed K te σ H (.int a) := ed_of h (.int a)
theorem ed_nil : EdA K tNil σ H [] := fun H1 _ _ q => q [] H1 (Ex.refl H1) .nil
theorem ed_cons (h : Ed K te σ H d) (hr : EdA K tr σ H ds) : EdA K (tCons te tr) σ H (d :: ds) := fun H1 e Q q =>
  h H1 e _ fun v H2 e2 hd => hr H2 (e.trans e2) _ fun vs H3 e3 ha => q (v :: vs) H3 (e2.trans e3) (.cons (dpM e3 hd) ha)
theorem dpa_len : ∀ {vs : List V} {ds : List PyData}, DpAll K H vs ds → vs.length = ds.length
  | _, _, .nil => rfl
  | _, _, .cons _ t => congrArg (· + 1) (dpa_len t)
theorem ed_lst (h : EdA K tr σ H ds) (hl : ds.length ≤ 100000 := by exact Nat.le_of_ble_eq_true rfl) : Ed K (tLst tr) σ H (.list ds) := fun H1 e Q q =>
  h H1 e _ fun vs H2 e2 ha => ⟨sz_of (by rw [dpa_len ha]; exact hl), fun p hp => q (.ref p) _ (e2.trans (Ex.new hp)) (.lst (sq_of upd_same) (dpaM (Ex.new hp) ha))⟩
theorem ed_tup (h : EdA K tr σ H ds) (hl : ds.length ≤ 100000 := by exact Nat.le_of_ble_eq_true rfl) : Ed K (tTup tr) σ H (.tuple ds) := fun H1 e Q q =>
  h H1 e _ fun vs H2 e2 ha => ⟨sz_of (by rw [dpa_len ha]; exact hl), fun p hp => q (.ref p) _ (e2.trans (Ex.new hp)) (.tup (st_of upd_same) (dpaM (Ex.new hp) ha))⟩
theorem ev_eqD (h : Ed K ta σ H d) (h' : Ed K tb σ H e) (s : SeqAt.shaped d = true) (s' : SeqAt.shaped e = true) : Ev (tOp (rEqD K) ta tb) σ H (.bl (PyData.eqv d e)) := fun H1 e1 Q q =>
  h H1 e1 _ fun v H2 e2 hd => h' H2 (e1.trans e2) _ fun u H3 e3 hd' => ⟨_, _, dpM e3 hd, hd', s, s', q H3 (e2.trans e3)⟩
theorem ev_neD (h : Ed K ta σ H d) (h' : Ed K tb σ H e) (s : SeqAt.shaped d = true) (s' : SeqAt.shaped e = true) : Ev (tOp (rNeD K) ta tb) σ H (.bl (!PyData.eqv d e)) := fun H1 e1 Q q =>
  h H1 e1 _ fun v H2 e2 hd => h' H2 (e1.trans e2) _ fun u H3 e3 hd' => ⟨_, _, dpM e3 hd, hd', s, s', q H3 (e2.trans e3)⟩
theorem ev_i0 {g : Int → Int → V} (ha : Ev ta σ H (.int a)) (hb : Ev tb σ H (.int b)) : Ev (tOp (rI0 g) ta tb) σ H (g a b) := ev_op ha hb rv_I0
theorem ev_i {C : Int → Int → Prop} {g : Int → Int → V} (ha : Ev ta σ H (.int a)) (hb : Ev tb σ H (.int b)) (hc : C a b) : Ev (tOp (rI C g) ta tb) σ H (g a b) := ev_op ha hb (rv_I hc)
theorem ev_eq (ha : Ev ta σ H x) (hb : Ev tb σ H y) (hs : scal x y = true) : Ev (tOp rEq ta tb) σ H (.bl (decide (x = y))) := ev_op ha hb (rv_eq hs)
theorem ev_ne (ha : Ev ta σ H x) (hb : Ev tb σ H y) (hs : scal x y = true) : Ev (tOp rNe ta tb) σ H (.bl (!decide (x = y))) := ev_op ha hb (rv_ne hs)
theorem ev_chain {f g : Int → Int → Bool} (ha : Ev ta σ H (.int a)) (hb : Ev tb σ H (.int b)) (hc : Ev tc σ H (.int c)) :
    Ev (tChain (rI0 fun i j => .bl (f i j)) (rI0 fun i j => .bl (g i j)) ta tb tc) σ H (.bl (f a b && g b c)) := fun H1 e Q q =>
  ha H1 e _ fun H2 e2 => hb H2 (e.trans e2) _ fun H3 e3 => ⟨a, b, rfl, rfl, f a b, rfl, by
    cases h : f a b with
    | true =>
      rw [h] at q
      exact iteT (hc H3 ((e.trans e2).trans e3) _ fun H4 e4 => ⟨b, c, rfl, rfl, q H4 ((e2.trans e3).trans e4)⟩)
    | false =>
      rw [h] at q
      exact iteF (q H3 (e2.trans e3))⟩
theorem ev_isB {p q : Bool} (ha : Ev ta σ H (.bl p)) (hb : Ev tb σ H (.bl q)) : Ev (tOp (fun x y H Q => ∃ a b, x = .bl a ∧ y = .bl b ∧ Q (.bl (decide (a = b))) H) ta tb) σ H (.bl (decide (p = q))) :=
  ev_op ha hb fun H1 _ _ k => ⟨p, q, rfl, rfl, k H1 (Ex.refl H1)⟩
theorem ev_isi {k : V} {tt uu : Value} {r : Bool} (ha : Ev ta σ H x) (hb : Ev tb σ H k) (h1 : ClsV k uu) (h2 : ∀ H1, Ex H H1 → TyX K H1 x tt) (h3 : PySem.W.kitOne K tt uu = some r) :
    Ev (tCB (rIsi K) (tCons ta (tCons tb tNil))) σ H (.bl r) := fun H1 e Q q => ha H1 e _ fun H2 e2 => hb H2 (e.trans e2) _ fun H3 e3 => ⟨x, k, tt, uu, r, rfl, h1, h2 H3 ((e.trans e2).trans e3), h3, q H3 (e2.trans e3)⟩
theorem ev_lenS {s : Str} (ha : Ev ta σ H (.str s)) (hz : s.length ≤ sizeLine) :
    Ev (tCB (fun xs H Q => ∃ z, xs = [.str z] ∧ z.length ≤ sizeLine ∧ Q (.int z.length) H) (tCons ta tNil)) σ H (.int (s.length : Int)) := fun H1 e Q q => ha H1 e _ fun H2 e2 => ⟨s, rfl, hz, q H2 e2⟩
theorem ev_lenL {l : Addr} {xs : List V} (ha : Ev ta σ H (.ref l)) (hl : SqL K H l xs) :
    Ev (tCB (fun xs H Q => ∃ p ys, xs = [.ref p] ∧ (SqL K H p ys ∨ SqT K H p ys) ∧ Q (.int ys.length) H) (tCons ta tNil)) σ H (.int (xs.length : Int)) := fun H1 e Q q => ha H1 e _ fun H2 e2 => ⟨l, xs, rfl, .inl (ex_l (e.trans e2) hl), q H2 e2⟩
theorem ev_lenT {l : Addr} {xs : List V} (ha : Ev ta σ H (.ref l)) (hl : SqT K H l xs) :
    Ev (tCB (fun xs H Q => ∃ p ys, xs = [.ref p] ∧ (SqL K H p ys ∨ SqT K H p ys) ∧ Q (.int ys.length) H) (tCons ta tNil)) σ H (.int (xs.length : Int)) := fun H1 e Q q => ha H1 e _ fun H2 e2 => ⟨l, xs, rfl, .inr (ex_t (e.trans e2) hl), q H2 e2⟩
theorem ev_abs (ha : Ev ta σ H (.int a)) : Ev (tCB (fun xs H Q => ∃ i, xs = [.int i] ∧ Q (.int (if i < 0 then -i else i)) H) (tCons ta tNil)) σ H (.int (if a < 0 then -a else a)) := fun H1 e Q q => ha H1 e _ fun H2 e2 => ⟨a, rfl, q H2 e2⟩
theorem ev_min (ha : Ev ta σ H (.int a)) (hb : Ev tb σ H (.int b)) : Ev (tCB (fun xs H Q => ∃ i j, xs = [.int i, .int j] ∧ Q (.int (if j < i then j else i)) H) (tCons ta (tCons tb tNil))) σ H (.int (if b < a then b else a)) := fun H1 e Q q => ha H1 e _ fun H2 e2 => hb H2 (e.trans e2) _ fun H3 e3 => ⟨a, b, rfl, q H3 (e2.trans e3)⟩
theorem ev_strI (ha : Ev ta σ H (.int a)) (hz : a.natAbs.log2 < 1920) : Ev (tCB (fun xs H Q => ∃ i, xs = [.int i] ∧ i.natAbs.log2 < 1920 ∧ Q (.str (toString i)) H) (tCons ta tNil)) σ H (.str (toString a)) := fun H1 e Q q => ha H1 e _ fun H2 e2 => ⟨a, rfl, hz, q H2 e2⟩
theorem ev_bits (ha : Ev ta σ H (.int a)) : Ev (tBits ta) σ H (.int (Builtin.Int.intBits a : Nat)) := fun H1 e Q q => ha H1 e _ fun H2 e2 => ⟨a, rfl, q H2 e2⟩
theorem ev_isN (ha : Ev ta σ H x) : Ev (tOp (fun x y H Q => y = .non ∧ Q (.bl (decide (x = .non))) H) ta (tC .non)) σ H (.bl (decide (x = .non))) := fun H1 e Q q => ha H1 e _ fun H2 e2 => ⟨rfl, q H2 e2⟩
theorem ev_notN (ha : Ev ta σ H x) : Ev (tOp (fun x y H Q => y = .non ∧ Q (.bl (!decide (x = .non))) H) ta (tC .non)) σ H (.bl (!decide (x = .non))) := fun H1 e Q q => ha H1 e _ fun H2 e2 => ⟨rfl, q H2 e2⟩
theorem ev_ixL {l : Addr} {xs : List V} {i : Int} (ha : Ev ta σ H (.ref l)) (hb : Ev tb σ H (.int i)) (hl : SqL K H l xs) (hi : atI xs i = some v) : Ev (tOp (rIxL K) ta tb) σ H v := ev_op ha hb (rv_ixL hl hi)
theorem ev_ixT {l : Addr} {xs : List V} {i : Int} (ha : Ev ta σ H (.ref l)) (hb : Ev tb σ H (.int i)) (hl : SqT K H l xs) (hi : atI xs i = some v) : Ev (tOp (rIxT K) ta tb) σ H v := ev_op ha hb (rv_ixT hl hi)
theorem ev_call1 {sp : Sp} {E : XK} (h : Ev te σ H x) (hs : SpV sp [x] H z) : Ev (tCall sp [] E (tCons te tNil)) σ H z := ev_call (vs := [x]) (ea_cons h ea_nil) hs
end

section
variable {K : PySem.W.Frag} {σ : L2.St} {H : Hp} {te tl : TE} {t : TT} {xs : List V} {ds : List PyData}
theorem ed_ofL (h : EvL te σ H xs) (hd : ∀ H1, Ex H H1 → DpAll K H1 xs ds) : Ed K te σ H (.list ds) := fun H1 e Q q =>
  h H1 e _ fun p H2 _ e2 hp => q (.ref p) H2 e2 (.lst (sq_of hp) (hd H2 (e.trans e2)))
theorem dpa_map {α : Type} {f : α → V} {g : α → PyData} (h : ∀ x, Dp K H (f x) (g x)) : ∀ l : List α, DpAll K H (l.map f) (l.map g)
  | [] => .nil
  | x :: r => .cons (h x) (dpa_map h r)
end
theorem shaped_flat {ds : List PyData} (h : ∀ d ∈ ds, PyData.canLay0 d = true ∧ PyData.depth d = 0) : SeqAt.shaped (.list ds) = true := by
  have e : PyData.canLayAll0 ds = true ∧ PyData.depthAll ds = 0 := by
    induction ds with
    | nil => exact ⟨rfl, rfl⟩
    | cons x r ih =>
      obtain ⟨h1, h2⟩ := h x List.mem_cons_self
      obtain ⟨g1, g2⟩ := ih fun d hd => h d (List.mem_cons_of_mem _ hd)
      exact ⟨by simp only [PyData.canLayAll0, h1, g1]; rfl, by simp only [PyData.depthAll, h2, g2]; rfl⟩
  unfold SeqAt.shaped
  simp only [PyData.canLay0, PyData.depth, e.1, e.2]
  rfl
section
variable {K : PySem.W.Frag} {σ : L2.St} {H : Hp} {D : Ends} {body rest : TS} {a : Addr} {ns : List Int}
def Out (a : Addr) (m : Nat) (H0 : Hp) (σ : L2.St) (H : Hp) : Prop := (∃ r, σ = some (.ref a) :: r ∧ r.length = m) ∧ Same H0 H
theorem spots {m : Nat} {k : Int} (hk : 0 ≤ k ∧ k ≤ 100) (hv : σ = some (.ref a) :: List.replicate m none) (hm : 0 < m) (hS : SqL K H a (ns.map V.int))
    (step : ∀ (s : Nat) (r : L2.St) (H1 : Hp), r.length + 1 = m → Same H H1 → body { D with nx := Out a m H, ct := Out a m H, bk := rest D } (some (.ref a) :: some (.int (s : Int)) :: r) H1)
    (done : ∀ (r : L2.St) (H1 : Hp), r.length = m → Same H H1 → rest D (some (.ref a) :: r) H1) :
    tSeq (tFor (iRng1 (tCons (tCB (fun xs H Q => ∃ i j, xs = [.int i, .int j] ∧ Q (.int (if j > i then j else i)) H) (tCons (tC (.int 1)) (tCons (tCB (fun xs H Q => ∃ i j, xs = [.int i, .int j] ∧ Q (.int (if j < i then j else i)) H) (tCons (tC (.int k))
      (tCons (tCB (fun xs H Q => ∃ p ys, xs = [.ref p] ∧ (SqL K H p ys ∨ SqT K H p ys) ∧ Q (.int ys.length) H) (tCons (tVar 0) tNil)) tNil))) tNil))) tNil)) (gName 1) body) rest D σ H := by
  subst hv
  have e0 : (some (V.ref a) :: List.replicate m none : L2.St)[0]? = some (some (.ref a)) := rfl
  refine ⟨.ref a, e0, a, _, rfl, .inl hS, k, _, rfl, 1, _, rfl, _, rfl, ?_, ?_, ?_⟩
  · split <;> split <;> omega
  · split <;> split <;> omega
  refine for_range (fun _ => Out a m H) ⟨⟨_, rfl, List.length_replicate⟩, Same.refl H⟩ ?_ ?_
  · rintro i σ' H' hi ⟨⟨r, rfl, hr⟩, hs⟩
    match r, hr with
    | x :: r, hr =>
      have z := step i r H' hr hs
      show body _ (some (.ref a) :: some (.int (0 + (i : Int))) :: r) H'
      rw [Int.zero_add]
      exact z
    | [], hr => exact absurd hr (by show ¬ 0 = m; omega)
  · rintro σ' H' ⟨⟨r, rfl, hr⟩, hs⟩
    exact done r H' hr hs
def Inn (a d : Addr) (m : Nat) (H0 : Hp) (σ : L2.St) (H : Hp) : Prop := (∃ s r, σ = some (.ref a) :: s :: some (.ref d) :: r ∧ r.length = m) ∧ Same H0 H ∧ Dice H d
end

def Es (Pr : V → Hp → Prop) (te : TE) (σ : L2.St) (H : Hp) : Prop := ∀ H1, Ex H H1 → ∀ Q : VK, (∀ v H2, Ex H1 H2 → Pr v H2 → Q v H2) → te σ H1 Q
def Lasts (Pr : V → Hp → Prop) : Prop := ∀ v H H', Ex H H' → Pr v H → Pr v H'
section
variable {K : PySem.W.Frag} {σ : L2.St} {H H' : Hp} {te ta : TE} {tr : TA} {Pr Pr' : V → Hp → Prop} {n : Nat} {v : V}
theorem es_ev (h : Ev te σ H v) (hp : ∀ H1, Ex H H1 → Pr v H1) : Es Pr te σ H := fun H1 e Q q => h H1 e Q fun H2 e2 => q v H2 e2 (hp H2 (e.trans e2))
theorem tyM (e : Ex H H') {x : V} {t : Value} (h : TyX K H x t) : TyX K H' x t := by
  cases h with
  | base b =>
    refine .base ?_
    cases b with
    | non => exact .non
    | bl y => exact .bl y
    | int i => exact .int i
    | str y => exact .str y
    | flt y => exact .flt y
    | lst ea => exact .lst (e _ _ ea)
    | frz ea => exact .frz (e _ _ ea)
    | tup ea => exact .tup (e _ _ ea)
    | dK ea => exact .dK (e _ _ ea)
    | dT ea => exact .dT (e _ _ ea)
    | ins ea cl ha hn htk hm => exact .ins (e _ _ ea) cl ha hn htk hm
  | byt b => exact .byt b
  | set ea => exact .set (e _ _ ea)
  | kList a c => exact .kList a c
  | kTuple a c => exact .kTuple a c
  | kDict a c => exact .kDict a c
  | fTuple ea => exact .fTuple (e _ _ ea)
  | fDict ea => exact .fDict (e _ _ ea)
end
end Ck

namespace Ck
open PySem PySem.Spec PyProof.Rows L2 Evl
def intB (i : Int) : Bool := decide (i.natAbs < 10 ^ 200)
theorem num_len (n k : Nat) (hk : 0 < k) : (Str.ofString (toString ((n : Nat) : Int))).length ≤ k ↔ n < 10 ^ k := by
  have h := congrArg List.length (TL.tl_num n)
  unfold TL.numL at h
  rw [List.length_map] at h
  rw [← Nat.length_toDigits_le_iff (b := 10) (n := n) (k := k) (by decide) hk, ← h]
  show (Str.ofString (toString (n : Int))).cps.size ≤ k ↔ (Str.ofString (toString (n : Int))).cps.toList.length ≤ k
  rw [Array.length_toList]
theorem abs_if (i : Int) : (if i < 0 then -i else i) = (i.natAbs : Int) := by
  split <;> omega
theorem short_eq (i : Int) : decide (((Str.ofString (toString (if i < 0 then -i else i))).length : Int) ≤ 200) = intB i := by
  rw [abs_if]
  unfold intB
  refine decide_eq_decide.mpr ?_
  rw [← num_len i.natAbs 200 (by decide)]
  omega
theorem bits_big {i : Int} (h : (800 : Int) < ((Builtin.Int.intBits i : Nat) : Int)) : intB i = false := by
  refine decide_eq_false fun z => ?_
  have z2 : i.natAbs < 2 ^ 800 := Nat.lt_trans z (by decide +kernel)
  unfold Builtin.Int.intBits at h
  split at h
  · omega
  · have := PySem.Flt.log2_lt_of (by decide : 0 < 800) z2
    omega
theorem bits_small {i : Int} (h : ¬ (800 : Int) < ((Builtin.Int.intBits i : Nat) : Int)) : i.natAbs.log2 < 1920 := by
  unfold Builtin.Int.intBits at h
  split at h
  · rename_i z
    have : i = 0 := by simpa using z
    rw [this]
    decide
  · omega
inductive OddI (K : PySem.W.Frag) (H : Hp) (x : V) : Prop where
  | no (n : String) (h : TyX K H x (.type n)) (k : kitB n "int" = some false) (kb : kitB n "bool" = some false := by decide +kernel)
  | bl (b : Bool) (h : x = .bl b)
theorem OddI.lasts {K : PySem.W.Frag} : Lasts fun x H => OddI K H x := fun v H H' e h => by
  cases h with
  | no n h k kb => exact .no n (tyM e h) k kb
  | bl b h => exact .bl b h
def NumV (K : PySem.W.Frag) (p : Int → Bool) (H : Hp) (x : V) (b : Bool) : Prop := (∃ i, x = .int i ∧ b = p i) ∨ (OddI K H x ∧ b = false)
def spNum (K : PySem.W.Frag) (p : Int → Bool) : Sp := fun vs H Q _ => ∃ x b, vs = [x] ∧ NumV K p H x b ∧ ∀ H', Ex H H' → Q (.bl b) H'
def cntB (i : Int) : Bool := intB i && decide (0 ≤ i)
def sizB (i : Int) : Bool := intB i && decide (1 ≤ i)
theorem num_i {K : PySem.W.Frag} {p : Int → Bool} {H : Hp} {i : Int} : SpV (spNum K p) [.int i] H (.bl (p i)) := fun H1 _ Q q E => ⟨.int i, _, rfl, .inl ⟨i, rfl, rfl⟩, q⟩
theorem num_o {K : PySem.W.Frag} {p : Int → Bool} {H : Hp} {x : V} (h : OddI K H x) : SpV (spNum K p) [x] H (.bl false) := fun H1 e Q q E => ⟨x, _, rfl, .inr ⟨OddI.lasts _ _ _ e h, rfl⟩, q⟩
end Ck

namespace Ck
open PySem PySem.Spec PyProof.Rows L2
section
variable {P : Program} {w : World} {A : Around} {E : Value → Shared → Prop} {s : Shared}
abbrev emptyS (w : World) : Obj :=
  { cls := .type "set", dict := none
    data := .set #[] 0 (.fresh 0 0 (!w.params.followText "set-order")) }
abbrev laidS (w : World) (s : Shared) : Shared := { s with heap := s.heap.push (emptyS w) }
abbrev Full (w : World) (ns : List Int) (s : Shared) (h' : Heap) (c : Nat) : Prop :=
  SetR w h' s.heap.objs.size (fun j => decide (j ∈ ns)) c ∧ c ≤ ns.length ∧ ∀ b o, s.heap.get? b = some o → h'.get? b = some o
end
section
variable {X : Cx}
end
end Ck

namespace Ck
open PySem PySem.Spec PyProof.Rows L2 Evl RZ
def adj {α : Type} (f : Int → Int → α) : List Int → List α
  | x :: y :: r => f x y :: adj f (y :: r)
  | _ => []
theorem adj_range {α : Type} (f : Int → Int → α) : ∀ ns : List Int, adj f ns = (List.range (ns.length - 1)).map fun i => f (ns.getD i 0) (ns.getD (i + 1) 0)
  | [] => rfl
  | [_] => rfl
  | x :: y :: r => by
    have ih := adj_range f (y :: r)
    have e : (x :: y :: r).length - 1 = ((y :: r).length - 1) + 1 := by simp only [List.length_cons]; omega
    rw [e, List.range_succ_eq_map, List.map_cons, List.map_map]
    show f x y :: adj f (y :: r) = _
    rw [ih]
    rfl
def asc (ns : List Int) : Bool := (adj (fun x y => decide (x < y)) ns).all id
def gap (ns : List Int) : Option (Int × Int) := (adj (fun x y => (x, y)) ns).find? fun p => !decide (p.2 % p.1 = 0)
def gapD : Option (Int × Int) → PyData
  | some p => .tuple [.int p.1, .int p.2]
  | none => .none
section
variable {K : PySem.W.Frag} {σ : L2.St} {H H' : Hp} {ta tb te tl : TE} {tr : TA} {t : TT} {vs : List V} {d : PyData} {v : V} {p a b : Addr} {xs ys : List V}
theorem dp_non {v : V} (h : Dp K H v .none) : v = .non := by cases h; rfl
theorem walk_zipT {n : Nat} (hn : n = min xs.length ys.length) : Walk (ItzT K a b) n (fun H => SqT K H a xs ∧ SqT K H b ys) (YPair (fun i => xs[i]?) (fun i => ys[i]?)) where
  goes := by
    intro i H hi q
    have h1 : i < xs.length := by omega
    have h2 : i < ys.length := by omega
    exact ⟨xs, ys, xs[i], ys[i], q.1, q.2, List.getElem?_eq_getElem h1, List.getElem?_eq_getElem h2⟩
  stops := by
    intro H q
    exact ⟨xs, ys, q.1, q.2, by omega⟩
  yields := by
    rintro i H v H' _ q ⟨T, x, y, r1, r2, r3, r4, r5⟩
    exact ⟨T, x, y, r1, r2, r3, r4 xs q.1, r5 ys q.2⟩
theorem ev_all {bs : List Bool} (h : EvL te σ H (bs.map V.bl)) : Ev (tCB (rAll K) (tCons te tNil)) σ H (.bl (bs.all id)) := fun H1 e Q q =>
  h H1 e _ fun l H2 _ e2 hl => ⟨l, bs, rfl, sq_of hl, q H2 e2⟩
theorem given_all (n : Nat) (f : Nat → V) : given n (fun _ => true) f = (List.range n).map f := by
  unfold given
  rw [List.filter_eq_self.mpr fun _ _ => rfl]
theorem cutT1 (xs : List V) : cutV xs (some 1) none = xs.drop 1 := by
  have e : HT.sIx xs.length 0 (some 1) = min 1 xs.length := HT.sIx_nat xs.length 0 1
  show (xs.drop (HT.sIx xs.length 0 (some 1))).take (xs.length - HT.sIx xs.length 0 (some 1)) = _
  rw [e]
  cases xs with
  | nil => rfl
  | cons x r =>
    have e1 : min 1 (x :: r).length = 1 := by rw [List.length_cons]; omega
    rw [e1]
    show r.take (r.length + 1 - 1) = r
    exact List.take_of_length_le (by omega)
theorem min_zip (ns : List Int) : ns.length - 1 = min (ns.map V.int).length ((ns.drop 1).map V.int).length := by
  rw [List.length_map, List.length_map, List.length_drop]; omega
theorem at_zip {ns : List Int} {i : Nat} {x y : V} (hx : (ns.map V.int)[i]? = some x) (hy : ((ns.drop 1).map V.int)[i]? = some y) : x = .int (ns.getD i 0) ∧ y = .int (ns.getD (i + 1) 0) ∧ i + 1 < ns.length := by
  rw [List.getElem?_map] at hx hy
  rw [List.getElem?_drop, Nat.add_comm 1 i] at hy
  rw [List.getD_eq_getElem?_getD, List.getD_eq_getElem?_getD]
  cases h1 : ns[i]? with
  | none => rw [h1] at hx; cases hx
  | some m =>
    cases h2 : ns[i + 1]? with
    | none => rw [h2] at hy; cases hy
    | some n =>
      rw [h1] at hx
      rw [h2] at hy
      cases hx
      cases hy
      exact ⟨rfl, rfl, (List.getElem?_eq_some_iff.mp h2).1⟩
end
theorem ty_tup {K : PySem.W.Frag} {H : Hp} {p : Addr} {xs : List V} (h : SqT K H p xs) : TyX K H (.ref p) (.type "tuple") := by
  rcases h with (h | ⟨o, h⟩) | ⟨o, its, n, h1, h2, _⟩
  · exact .base (.tup h)
  · exact .fTuple h
  · exact .kTuple h1 h2
theorem decI (a b : Int) : V.bl (!decide ((V.int a) = V.int b)) = V.bl (!decide (a = b)) := by
  by_cases h : a = b
  · rw [h, decide_eq_true rfl, decide_eq_true rfl]
  · rw [decide_eq_false h, decide_eq_false fun z => h (V.int.inj z)]
theorem find_first {α : Type} {p : α → Bool} : ∀ {l : List α} {i : Nat} {x : α}, l[i]? = some x → p x = true → (∀ j y, j < i → l[j]? = some y → p y = false) → l.find? p = some x
  | [], _, _, h, _, _ => by cases h
  | a :: r, 0, x, h, hx, _ => by
    cases h
    rw [List.find?_cons, hx]
  | a :: r, i + 1, x, h, hx, hj => by
    rw [List.find?_cons, hj 0 a (Nat.succ_pos i) rfl]
    exact find_first (i := i) h hx fun j y hji hy => hj (j + 1) y (by omega) hy
theorem adj_at {α : Type} (f : Int → Int → α) {ns : List Int} {i : Nat} (h : i + 1 < ns.length) : (adj f ns)[i]? = some (f (ns.getD i 0) (ns.getD (i + 1) 0)) := by
  rw [adj_range, List.getElem?_map, List.getElem?_range (by omega)]
  rfl
theorem adj_len {α : Type} (f : Int → Int → α) (ns : List Int) : (adj f ns).length = ns.length - 1 := by
  rw [adj_range, List.length_map, List.length_range]
theorem gap_some {ns : List Int} {i : Nat} (hi : i + 1 < ns.length) (hj : ∀ j, j < i → ns.getD (j + 1) 0 % ns.getD j 0 = 0) (h : ¬ ns.getD (i + 1) 0 % ns.getD i 0 = 0) : gap ns = some (ns.getD i 0, ns.getD (i + 1) 0) := by
  unfold gap
  refine find_first (adj_at _ hi) (by show (!decide _) = true; rw [decide_eq_false h]; rfl) ?_
  intro j y hji hy
  rw [adj_at _ (show j + 1 < ns.length by omega)] at hy
  cases hy
  show (!decide _) = false
  rw [decide_eq_true (hj j hji)]
  rfl
theorem gap_none {ns : List Int} (hj : ∀ j, j < ns.length - 1 → ns.getD (j + 1) 0 % ns.getD j 0 = 0) : gap ns = none := by
  unfold gap
  rw [List.find?_eq_none]
  intro y hy
  obtain ⟨j, hj1, rfl⟩ := List.mem_iff_getElem.mp hy
  have l : j < ns.length - 1 := by rwa [adj_len] at hj1
  have e : (adj (fun x y => (x, y)) ns)[j] = (ns.getD j 0, ns.getD (j + 1) 0) := by
    have z := adj_at (fun x y => (x, y)) (ns := ns) (i := j) (by omega)
    rw [List.getElem?_eq_getElem hj1] at z
    exact Option.some.inj z
  rw [e]
  show ¬ (!decide _) = true
  rw [decide_eq_true (hj j l)]
  decide
theorem divW {a b : Int} (h : 0 < b) (hb : b.natAbs < 10 ^ 200) : CDivW a b := wide_div (b := 800) h (Nat.lt_trans hb (by decide +kernel)) (by decide) (by decide)
theorem siz_int {a : Int} (h : sizB a = true) : 0 < a ∧ a.natAbs < 10 ^ 200 := by
  unfold sizB intB at h
  rw [Bool.and_eq_true] at h
  exact ⟨by have := of_decide_eq_true h.2; omega, of_decide_eq_true h.1⟩
end Ck

namespace Ck
open PySem PySem.Spec PyProof.Rows L2 HT
section
variable {P : Program} {w : World} {A : Around} {E : Value → Shared → Prop} {s : Shared}
theorem back_n (n : Nat) : Builtin.Slice.slicePlaces ((n : Int) - 1) (-1) (-1) = n := by
  unfold Builtin.Slice.slicePlaces
  have a : ¬ ((-1 : Int) > 0) := by decide
  rw [if_neg a]
  by_cases h : (n : Int) - 1 > -1
  · rw [if_pos h, show (- -1 : Int) = 1 from rfl, Int.ediv_one]; omega
  · rw [if_neg h]; omega
theorem back_pick (xs : Array Value) : ((List.range xs.size).filterMap fun (m : Nat) => xs[(((xs.size : Int) - 1) + (m : Int) * (-1)).toNat]?).toArray = xs.toList.reverse.toArray := by
  have e : (List.range xs.size).filterMap (fun (m : Nat) => xs[(((xs.size : Int) - 1) + (m : Int) * (-1)).toNat]?) = ((List.range xs.size).map fun k => xs.size - 1 - k).filterMap (xs[·]?) := by
    rw [List.filterMap_map]
    congr 1
    funext m
    show xs[_]? = xs[xs.size - 1 - m]?
    congr 1
    omega
  rw [e, PySem.W.krv_range, List.filterMap_reverse, PySem.W.krv_all]
theorem applied_back {sl : Addr} {n : Nat} {v : Value} {Q : Int × Int × Nat → Shared → Prop} (hs : s.heap.IsSliceOf sl .none .none v) (pv : IsPart v (some (-1))) (h : Q ((n : Int) - 1, -1, n) s) :
    wpAny (model P w) A (Builtin.Slice.sliceApplied (.ref sl) (pure (n : Int))) Q E s := by
  obtain ⟨os, hos, _, hds⟩ := id hs
  unfold Builtin.Slice.sliceApplied Builtin.Slice.sliceFields
  refine wpAny_bind (wpAny_bind (wpAny_field hos hds (x := .none) rfl (wpAny_bind (wpAny_field hos hds (x := .none) rfl (wpAny_bind (wpAny_field hos hds (x := v) rfl (wpAny_pure ?_)))))))
  refine wpAny_bind (slicePart_ pv ?_)
  show wpAny _ _ (if ((-1 : Int) == 0) = true then _ else _) _ _ s
  rw [if_neg (by decide)]
  refine wpAny_bind (slicePart_none (wpAny_bind (slicePart_none (wpAny_bind (wpAny_pure ?_)))))
  show wpAny _ _ (pure (((n : Int) - 1), (-1 : Int), Builtin.Slice.slicePlaces ((n : Int) - 1) (-1) (-1))) _ _ s
  rw [back_n]
  exact wpAny_pure h
theorem get_back {t sl : Addr} {its : Array Value} {v : Value} {Q : Value → Shared → Prop} (ht : IsTup s.heap t its) (hs : s.heap.IsSliceOf sl .none .none v) (pv : IsPart v (some (-1)))
    (h : Q (.ref s.heap.objs.size) { s with heap := s.heap.push { cls := .type "tuple", data := .seq its.toList.reverse.toArray } }) (hz : its.size ≤ sizeLine) : wpAny (model P w) A (getItem (.ref t) (.ref sl)) Q E s := by
  have ok : sizeOk (.seq its.toList.reverse.toArray) := by
    show its.toList.reverse.toArray.size ≤ sizeLine
    rw [List.size_toArray, List.length_reverse, Array.length_toList]
    exact hz
  obtain ⟨ob, hob, hcb, hdb⟩ := id hs
  have tS : s.TypeIs (.ref sl) "slice" := ⟨ob, hob, hcb⟩
  have tT := ht.typeIs
  unfold getItem
  try with_reducible refine wpAny_holding ?_
  first | refine wpAny_bind (wpAny_pure ?_) | skip
  refine wpAny_bind (wpAny_sequenceKey tT (by decide) ?_)
  refine wpAny_bind (wpAny_callSpecial?_slot (name := Str.ofString "__getitem__") tT PyProof.Rows.slot_tuple_getitem (wpAny_call_entry PyProof.Rows.slot_tuple_getitem tT entry_tuple_getitem ?_ (args_tuple_getitem _ _)))
  show wpAny _ _ (Builtin.Tuple.tupleItemsOf (.ref t) >>= _) _ _ s
  refine wpAny_bind (tupleItemsOf_ ht ?_)
  refine wpAny_bind (wpAny_typeOf tS ?_)
  rw [if_pos (by decide)]
  refine wpAny_bind (applied_back hs pv ?_)
  have no : ¬ ((((its.size : Int) - 1) == 0 && (-1 : Int) == 1 && its.size == its.size) = true) := by
    intro q
    rw [Bool.and_eq_true, Bool.and_eq_true] at q
    exact absurd q.1.2 (by decide)
  show wpAny _ _ (if (((its.size : Int) - 1) == 0 && (-1 : Int) == 1 && its.size == its.size) = true then _ else _) _ _ s
  rw [if_neg no, back_pick]
  first
    | exact wpAny_bind (m := Builtin.Tuple.tupleExact _) (wpAny_newObj_type (wpAny_pure ⟨_, rfl, wpAny_pure h⟩) ok)
    | exact wpAny_bind (m := Builtin.Tuple.tupleExact _) (wpAny_newObj_type (wpAny_bind (wpAny_pure (wpAny_pure ⟨_, rfl, wpAny_pure h⟩))) ok)
    | exact wpAny_bind (wpAny_bind (m := Builtin.Tuple.tupleExact _) (wpAny_newObj_type (wpAny_pure (wpAny_pure ⟨_, rfl, wpAny_pure h⟩)) ok))
    | exact wpAny_bind (wpAny_bind (m := Builtin.Tuple.tupleExact _) (wpAny_newObj_type (wpAny_pure ⟨_, rfl, wpAny_pure h⟩) ok))
end
section
variable {X : Cx}
def tRevT (K : PySem.W.Frag) (te : TE) : TE := fun σ H Q => te σ H fun x H1 => ∃ a xs, x = .ref a ∧ SqT K H1 a xs ∧ ∀ p, H1 p = none → Q (.ref p) (upd H1 p (.tup xs.reverse))
theorem pe_revT {e : Expr} {te : TE} {k : Nat} {p1 p2 p3 pos : Pos} (he : PE X e te) : PE X (.Subscript e (.Slice none none (some (.UnaryOp .USub (.Constant (.int 1) k p1) p2)) p3) pos) (tRevT X.K te) := by
  refine ⟨fun pins s σ H Q I h => Subscript_ (thn (he.run pins s σ H _ I h) fun v s1 ⟨x, H1, I1, r1, a, xs, ex, hx, q⟩ => ?_)⟩
  subst ex
  cases r1
  have part : PO X (some (.UnaryOp .USub (.Constant (.int 1) k p1) p2)) (tPart (tUn (rU fun i => .int (-i)) (tC (.int 1)))) := po_some (pe_un un_neg pe_int)
  refine wpAny_Slice (thn (po_none.run pins s1 σ H1 (fun o H2 => o = none ∧ H2 = H1) I1 ⟨rfl, rfl⟩) fun vl s2 ⟨l, H2, I2, pl, el, e2⟩ => ?_)
  subst el e2
  refine thn (po_none.run pins s2 σ H2 (fun o H3 => o = none ∧ H3 = H2) I2 ⟨rfl, rfl⟩) fun vu s3 ⟨u, H3, I3, pu, eu, e3⟩ => ?_
  subst eu e3
  refine thn (part.run pins s3 σ H3 (fun o H4 => o = some (-1) ∧ H4 = H3) I3 ⟨1, rfl, -1, rfl, rfl, rfl⟩) fun vs s4 ⟨o, H4, I4, pv, eo, e4⟩ => ?_
  subst eo e4
  cases pl
  cases pu
  have I5 : Inv X pins σ H4 { s4 with heap := s4.heap.push { cls := .type "slice", data := .fields #[.none, .none, vs] } } := I4.kept (t' := s4.toks) fun b ob q => Heap.get?_push_of_some _ q
  obtain ⟨its, r, ht, hz⟩ := I5.tuple hx
  have hlen := r.length
  refine tail_any (ops := [.ref a, .ref s4.heap.objs.size]) ht.typeIs (PyProof.Rows.slot_tuple_getitem.lookup) ?_ (by with_unfolding_all rfl)
  refine get_back ht (Heap.IsSliceOf.new _ .none .none vs) pv ?_ (by rw [List.size_toArray]; omega)
  refine ⟨.ref _, _, I5.laid (t' := s4.toks) (o := .tup xs.reverse) (fun b ob q => Heap.get?_push_of_some _ q) (Nat.le_refl _) ?_, rfl, q _ (I5.hok.fresh (Nat.le_refl _))⟩
  exact ⟨by rw [List.length_reverse]; exact hz, _, r.reverse, IsTup.new _ _⟩
end
end Ck

namespace Ck
open PySem PySem.Spec PyProof.Rows L2 Evl
def Kd (d : Addr) (H H' : Hp) : Prop := Kp d H H' ∧ Dice H' d
theorem Kd.refl {d : Addr} {H : Hp} (h : Dice H d) : Kd d H H := ⟨Kp.refl d H, h⟩
theorem Kd.trans {d : Addr} {H H1 H2 : Hp} (a : Kd d H H1) (b : Kd d H1 H2) : Kd d H H2 := ⟨a.1.trans b.1, b.2⟩
theorem Dice.ex {d : Addr} {H H' : Hp} (h : Dice H d) (e : Ex H H') : Dice H' d := by
  obtain ⟨a, b, c, x⟩ := h
  exact ⟨a, b, c, e _ _ x⟩
theorem Kd.ex {d : Addr} {H H' : Hp} (h : Dice H d) (e : Ex H H') : Kd d H H' := ⟨fun b o _ x => e b o x, h.ex e⟩
theorem Kd.but {d : Addr} {H H' : Hp} (h : Dice H' d) (k : But d H H') : Kd d H H' := ⟨k.kp, h⟩
theorem Kd.to {d : Addr} {H H1 H2 : Hp} (a : Kd d H H1) (e : Ex H1 H2) : Kd d H H2 := a.trans (Kd.ex a.2 e)
section
variable {K : PySem.W.Frag} {H H' : Hp} {d : Addr}
end
section
variable {K : PySem.W.Frag} {d p : Addr} {σ : L2.St} {H : Hp} {ta tb te : TE} {tl th : TO} {n m : Nat} {xs ys : List V} {lo hi : Option Int}
theorem cutV_all (xs : List V) {lo hi : Option Int} (h : HT.sIx xs.length 0 lo = 0 ∧ HT.sIx xs.length xs.length hi = xs.length) : cutV xs lo hi = xs := by
  unfold cutV
  rw [h.1, h.2]
  exact List.take_of_length_le (Nat.le_refl _)
end
section
variable {K : PySem.W.Frag} {σ : L2.St} {H : Hp} {D : Ends} {z : TS} {te tl : TE} {d : PyData} {ds : List PyData} {xs : List V}
abbrev rTupS (K : PySem.W.Frag) : List V → Hp → VK → Prop := fun xs H Q => ∃ p ys, xs = [.ref p] ∧ ((SqL K H p ys ∧ ∀ l, H l = none → Q (.ref l) (upd H l (.tup ys))) ∨ (SqT K H p ys ∧ Q (.ref p) H))
theorem eu_tupleL (h : EvL tl σ H xs) : EvU (tCB (rTupS K) (tCons tl tNil)) σ H xs := fun H1 e Q q =>
  h H1 e _ fun p H2 _ e2 hp => ⟨p, xs, rfl, .inl ⟨SqL.of hp, fun l hl => q l _ (fresh_back e2 hl) (e2.trans (Ex.new hl)) upd_same⟩⟩
theorem dpa_ints {H : Hp} : ∀ ns : List Int, DpAll K H (ns.map V.int) (ns.map PyData.int) := dpa_map fun i => .int i
end
end Ck

namespace Ck
open PySem PySem.Spec PyProof.Rows L2
theorem eu_tup_of {K : PySem.W.Frag} {te : TE} {σ : L2.St} {H : Hp} {p : Addr} {xs : List V} (h : Evl.Ev te σ H (.ref p)) (hp : SqL K H p xs) : Evl.EvU (tCB (rTupS K) (tCons te tNil)) σ H xs := fun H1 e Q q =>
  h H1 e _ fun H2 e2 => ⟨p, xs, rfl, .inl ⟨Evl.ex_l (e.trans e2) hp, fun l hl => q l _ (Evl.fresh_back e2 hl) (e2.trans (Evl.Ex.new hl)) upd_same⟩⟩
def Ek (d : Addr) (Pr : V → Prop) (te : TE) (σ : L2.St) (H : Hp) : Prop := ∀ H1, Kd d H H1 → ∀ Q : VK, (∀ v H2, Kd d H1 H2 → Pr v → Q v H2) → te σ H1 Q
theorem sq_asgK {d : Addr} {Pr : V → Prop} {te : TE} {σ : L2.St} {H : Hp} {D : Ends} {z : TS} {i : Nat} (hd : Dice H d) (h : Ek d Pr te σ H) (k : ∀ v H1, Kd d H H1 → Pr v → z D (σ.set i (some v)) H1) : tSeq (tAsg te (gName i)) z D σ H := h H (Kd.refl hd) (fun x H1 => gName i x σ H1 (z D)) k
end Ck

namespace Ck
open PySem PySem.Spec PyProof.Rows L2
section
variable {X : Cx} {a b c d : Expr} {ta tb tc td : TE} {pos : Pos}
end
section
variable {σ : L2.St} {H : Hp} {ta tb tc td : TE} {a b c d : Int}
end
section
variable {σ : L2.St} {H : Hp} {D : Ends} {body : TS} {a : Addr}
theorem turnsE {m : Nat} {n : Int} {d : Addr} {H0 : Hp} (hn : 0 ≤ n ∧ n ≤ 100) (hi : Inn a d (m + 1) H0 σ H)
    (step : ∀ (t s : Option V) (r : L2.St) (H1 : Hp), r.length = m → Same H0 H1 → Dice H1 d → body { D with nx := Inn a d (m + 1) H0, ct := Inn a d (m + 1) H0, bk := D.nx } (some (.ref a) :: s :: some (.ref d) :: t :: r) H1)
    (done : ∀ (s : Option V) (r : L2.St) (H1 : Hp), r.length = m + 1 → Same H0 H1 → Dice H1 d → D.nx (some (.ref a) :: s :: some (.ref d) :: r) H1) :
    tFor (iRng1 (tCons (tC (.int n)) tNil)) (gName 3) body D σ H := by
  refine ⟨n, rfl, by omega, by omega, ?_⟩
  refine for_range (fun _ => Inn a d (m + 1) H0) hi ?_ ?_
  · rintro i σ' H' _ ⟨⟨s, r, rfl, hr⟩, hs, hd⟩
    match r, hr with
    | x :: r, hr => exact step _ s r H' (Nat.succ.inj hr) hs hd
  · rintro σ' H' ⟨⟨s, r, rfl, hr⟩, hs, hd⟩
    exact done s r H' hr hs hd
end
section
variable {K : PySem.W.Frag} {σ : L2.St} {H : Hp} {te : TE} {xs : List V} {d : PyData} {z : V}
end
end Ck

namespace Ck
open PySem PySem.Spec PyProof.Rows L2
end Ck

namespace Ck
open PySem PySem.Spec PyProof.Rows L2 Evl RZ
section
variable {K : PySem.W.Frag} {H H' : Hp}
def Etu (K : PySem.W.Frag) (te : TE) (σ : L2.St) (H : Hp) (xs : List V) : Prop := ∀ H1, Ex H H1 → ∀ Q : VK, (∀ p H2, Ex H1 H2 → SqT K H2 p xs → Q (.ref p) H2) → te σ H1 Q
theorem etu_ev {te : TE} {σ : L2.St} {p : Addr} {xs : List V} (h : Ev te σ H (.ref p)) (hp : SqT K H p xs) : Etu K te σ H xs := fun H1 e Q q => h H1 e _ fun H2 e2 => q p H2 e2 (ex_t (e.trans e2) hp)
end
section
variable {K : PySem.W.Frag} {H H' : Hp} {l : Addr}
theorem ev_sum {tl : TE} {σ : L2.St} {ns : List Int} (h : Evl.EvL tl σ H (ns.map V.int)) : Evl.Ev (tCB (rSum K) (tCons tl tNil)) σ H (.int ns.sum) := fun H1 e Q q => h H1 e _ fun p H2 _ e2 hp => ⟨p, ns, rfl, SqL.of hp, q H2 e2⟩
end
theorem mul200 {a b : Int} (ha : a.natAbs < 10 ^ 200) (hb : b.natAbs < 10 ^ 200) : CMulW a b := wide_mul (a := 800) (b := 800) (Nat.lt_trans ha (by decide +kernel)) (Nat.lt_trans hb (by decide +kernel)) (by decide) (by decide) (by decide)
end Ck

namespace Ck
open PySem PySem.Spec PyProof.Rows L2 Evl RZ
section
variable {K : PySem.W.Frag} {σ : L2.St} {H : Hp} {ta tb te : TE} {tl th : TO} {xs ys : List V} {lo hi : Option Int} {v : V}
theorem etu_rev (h : Etu K te σ H xs) : Etu K (tRevT K te) σ H xs.reverse := fun H1 e Q q => h H1 e _ fun p H2 e2 hp => ⟨p, xs, rfl, hp, fun b hb => q b _ (e2.trans (Ex.new hb)) (SqT.of upd_same)⟩
theorem etu_sl (h : Etu K te σ H xs) (h1 : EvO tl σ H lo) (h2 : EvO th σ H hi) : Etu K (tSl (rSlA K) te tl th) σ H (cutV xs lo hi) := fun H1 e Q q => h H1 e _ fun p H2 e2 hp =>
  h1 H2 (e.trans e2) _ fun H3 e3 => h2 H3 ((e.trans e2).trans e3) _ fun H4 e4 => by
    have hp4 := ex_t (e3.trans e4) hp
    refine ⟨p, xs, rfl, hp4, fun w => ?_, fun _ b hb => q b _ ((e2.trans (e3.trans e4)).trans (Ex.new hb)) (SqT.of upd_same)⟩
    have z := q p H4 (e2.trans (e3.trans e4))
    rw [cutV_all xs w] at z
    exact z hp4
theorem etu_cat (ha : Etu K ta σ H xs) (hb : Etu K tb σ H ys) (hz : xs.length + ys.length ≤ 100000) : Etu K (tOp (rCatA K) ta tb) σ H (xs ++ ys) := fun H1 e Q q => ha H1 e _ fun a H2 e2 hx => hb H2 (e.trans e2) _ fun b H3 e3 hy => by
  have hx3 := ex_t e3 hx
  refine ⟨a, b, xs, ys, rfl, rfl, hx3, hy, sz_of hz, fun z => ?_, fun _ z => ?_, fun _ _ c hc => q c _ ((e2.trans e3).trans (Ex.new hc)) (SqT.of upd_same)⟩
  · subst z; exact q b H3 (e2.trans e3) hy
  · subst z; exact q a H3 (e2.trans e3) (by rw [List.append_nil]; exact hx3)
theorem etu_is (h : Etu K te σ H xs) (e : xs = ys) : Etu K te σ H ys := e ▸ h
theorem ed_etu {ns : List Int} (h : Etu K te σ H (ns.map V.int)) : Ed K te σ H (.tuple (ns.map PyData.int)) := fun H1 e Q q => h H1 e _ fun p H2 e2 hp => q (.ref p) H2 e2 (.tup hp (dpa_ints ns))
end
end Ck

namespace Ck
open PySem PySem.Spec PyProof.Rows L2
section
variable {P : Program} {w : World} {A : Around} {E : Value → Shared → Prop} {s : Shared}
theorem fill_tup {l : Addr} {items : Array Value} (ns : List Int) (hh : A.handled = none) (hl : s.heap.IsTuple l items) (hit : IntsAre items.toList ns) (hb : ns.length + 1 < scanBound) :
    codeAny (model P w) A (.call (.builtin "set.__init__") ⟨[.ref s.heap.objs.size, .ref l], []⟩)
      (wants (fun r s₂ => r = .none ∧ ∃ h' tk c, s₂ = { s with heap := h', toks := tk } ∧ Full w ns s h' c) E) (laidS w s) := by
  have sz : items.size = ns.length := (Array.length_toList (xs := items)).symm.trans (IntsAre.length hit)
  have at0 : (laidS w s).heap.get? s.heap.objs.size = some (emptyS w) := Heap.get?_push_size _ rfl
  have ty : (laidS w s).TypeIs (.ref s.heap.objs.size) "set" := ⟨emptyS w, at0, rfl⟩
  refine codeAny_call_builtin F.called_set.init.plain F.entry_set_init (check_set_init_1 ty ?_)
  obtain ⟨⟨k1, k2, k3, k4⟩, ho, e1, nl, e3⟩ := hl
  cases e1
  cases e3
  have ho' : (laidS w s).heap.get? l = some ⟨.type "tuple", k2, .seq items nl, k4⟩ := Heap.get?_push_of_some _ ho
  have isl : (laidS w s).heap.IsTuple l items := ⟨_, ho', rfl, nl, rfl⟩
  have q1 := PySem.F.sub_tuple_set
  have q2 := PySem.F.sub_tuple_frozenset
  have q3 : (Value.type "tuple" == Value.type "dict") = false := by decide
  unfold Builtin.«set.__init__» noKeywords Builtin.Frozenset.updateFrom
  generalize hp : pyIter = PI
  wp_walk
  subst hp
  refine wpAny_pyIter_tuple isl (wpAny_bind (wpAny_runValue ?_))
  have l0 : l < s.heap.objs.size := Heap.lt_size ho
  have n1 : (laidS w s).heap.objs.size = s.heap.objs.size + 1 := Heap.size_push ..
  have n2 : l ≠ (laidS w s).heap.objs.size := by rw [n1]; exact Nat.ne_of_lt (Nat.lt_succ_of_lt l0)
  have n3 : s.heap.objs.size ∉ [(laidS w s).heap.objs.size, l] := fun z => by
    rw [n1] at z
    rcases List.mem_cons.mp z with z | z
    · exact absurd z (Nat.ne_of_lt (Nat.lt_succ_self _))
    · exact absurd (List.mem_singleton.mp z) (Nat.ne_of_gt l0)
  have val : ∀ (i : Nat) (v : Value), items[i]? = some v → ∃ k t, ns[i]? = some k ∧ v = .int k t := by
    intro i v hv
    have hi : i < ns.length := sz ▸ (Array.getElem?_eq_some_iff.mp hv).1
    obtain ⟨t, e⟩ := IntsAre.int_at hit i v ((Array.getElem?_toList (xs := items)).trans hv)
    exact ⟨ns[i], t, List.getElem?_eq_getElem hi, by rw [e, List.getD_eq_getElem?_getD, List.getElem?_eq_getElem hi] <;> rfl⟩
  have W := (Walks.tuple (prog := P) (w := w) (show A.in1.in1.handled = none from hh) _ l n2 items).toS
  have start : (∃ c, c ≤ 0 ∧ SetR w ((laidS w s).heap.push { cls := .type "tuple_iterator", data := .fields #[.ref l, .int 0 0] }) s.heap.objs.size (fun j => decide (j ∈ ns.take 0)) c) :=
    ⟨0, Nat.le_refl 0, setR_new_at (Heap.get?_push_of_some _ at0)⟩
  refine set_update_ints W s.heap.objs.size n3 ns sz hb val _ 0 _ rfl (Nat.zero_le _) ?_ ?_ ?_
  · exact ⟨⟨_, Heap.get?_push_size _ rfl, rfl, rfl⟩, isl.push _⟩
  · exact start
  rintro ⟨h', g2, d2, tk, os2⟩ c mv hc hS
  obtain rfl : g2 = s.gens := mv.gens
  obtain rfl : d2 = s.drawn := mv.drawn
  obtain rfl : os2 = s.os := mv.os
  show wpAny _ _ _ _ _ _
  refine wpAny_pure ?_
  show wpAny _ _ (ret Value.none) _ _ _
  refine wpAny_pure ⟨rfl, h', tk, c, rfl, hS, sz ▸ hc, ?_⟩
  intro b o e
  have b0 : b < s.heap.objs.size := Heap.lt_size e
  refine mv.heap b o (fun z => ?_) (Heap.get?_push_of_some _ (Heap.get?_push_of_some _ e))
  rcases List.mem_cons.mp z with z | z
  · exact absurd z (Nat.ne_of_lt b0)
  · have z' := List.mem_singleton.mp z
    rw [n1] at z'
    exact absurd z' (Nat.ne_of_lt (Nat.lt_succ_of_lt b0))
theorem set_of_tup {l : Addr} {items : Array Value} (ns : List Int) {Q : Value → Shared → Prop} (hh : A.handled = none) (hl : s.heap.IsTuple l items) (hit : IntsAre items.toList ns) (hb : ns.length + 1 < scanBound)
    (h : ∀ (h' : Heap) (tk c : Nat), Full w ns s h' c → Q (.ref s.heap.objs.size) { s with heap := h', toks := tk }) :
    wpAny (model P w) A (call (.type "set") [.ref l]) Q E s := by
  obtain ⟨c0, t0, mro⟩ := F.called_set.mro
  have g1 := F.called_set.made
  have g2 := F.called_set.sub
  have g3 := F.called_set.notType
  have g4 := F.called_set.canCreate
  have g5 := F.typeCall_set_1 (.ref l)
  refine wpAny_call (codeAny_of_tree ?_)
  show wpAny _ _ (callAny (.type "set") _) _ _ _
  refine wpAny_pure ⟨Code.quiet_builtin _ (by decide +kernel), codeAny_builtin F.entry_type_call ?_⟩
  rw [Around.under_plain (weight_type_call_type "set" [.ref l] []) rfl]
  repeat (any_goals (first | assumption | wp_step))
  refine codeAny_mono (code_set_led1 (.ref l) (E := E) (Q₁ := fun obj s₁ => obj = .ref s.heap.objs.size ∧ s₁ = laidS w s) ⟨rfl, rfl⟩) ?_
  intro r s₁ hr
  match r, hr with
  | .error e, hr => exact hr
  | .ok .next, hr => exact hr.elim
  | .ok .brk, hr => exact hr.elim
  | .ok .cont, hr => exact hr.elim
  | .ok (.ret obj), hr =>
    obtain ⟨rfl, rfl⟩ := hr
    have ty : (laidS w s).TypeIs (.ref s.heap.objs.size) "set" := ⟨emptyS w, Heap.get?_push_size _ rfl, rfl⟩
    have g6 := F.called_set.init.lookup
    have g7 := F.called_set.init.bind (.ref s.heap.objs.size)
    repeat (any_goals (first | assumption | wp_step))
    refine codeAny_mono (fill_tup (E := E) ns (show A.in1.handled = none from hh) hl hit hb) ?_
    intro r₂ s₂ hr₂
    match r₂, hr₂ with
    | .error e, hr₂ => exact hr₂
    | .ok .next, hr₂ => exact hr₂.elim
    | .ok .brk, hr₂ => exact hr₂.elim
    | .ok .cont, hr₂ => exact hr₂.elim
    | .ok (.ret r), hr₂ =>
      obtain ⟨rfl, h', tk, c, rfl, full⟩ := hr₂
      repeat (any_goals (first | assumption | wp_step))
      exact h h' tk c full
end
section
variable {X : Cx}
def rSetT (K : PySem.W.Frag) (w : World) : List V → Hp → VK → Prop := fun xs H Q => ∃ (a : Addr) (ns : List Int), xs = [V.ref a] ∧ SqT K H a (ns.map V.int) ∧ ns.length < 60 ∧
  ∀ p c, H p = none → c ≤ ns.length → Q (.ref p) (upd H p (SetO w p (fun j => decide (j ∈ ns)) c))
theorem cr_setT (hc : X.calm = true) : CallR X (.type "set") (rSetT X.K X.w) := by
  intro pins s σ H xs us Q I r h
  obtain ⟨a, ns, rfl, hS, hl, q⟩ := h
  obtain ⟨u, rfl, ru⟩ := vals1 r
  cases (show u = Value.ref a from ru)
  obtain ⟨its, rv, pl, hz⟩ := I.tuple hS
  refine set_of_tup ns (I.ok.hd hc) pl (by simpa using rv.ints) (by unfold scanBound; omega) ?_
  rintro h' tk c ⟨hR, hcl, hk⟩
  exact ⟨.ref s.heap.objs.size, _, I.laid (t' := tk) hk (Nat.le_refl _) (setO_new hR), rfl, q _ c (I.hok.fresh (Nat.le_refl _)) hcl⟩
end
end Ck

namespace PySem
namespace CkX
open Builtin Builtin.ObjectAttr HandSPX
section
variable {prog : Program} {w : World} {A : Around} {E : Value → Shared → Prop} {R : Result → Shared → Prop} {hp : Heap} {g : Array GenState} {d : Drawn} {t : Nat} {os : OsState}
end
end CkX
end PySem
namespace Ck
open PySem PySem.Spec PyProof.Rows L2
section
variable {X : Cx} {pins : List (Addr × Obj)} {σ : L2.St} {H : Hp} {s : Shared} {a C : Addr} {f : Str} {y : V} {u : Value} {Q : Unit → Shared → Prop} {E : Value → Shared → Prop} {A : Around} {B newId sa ow : String} {T : List Value}
end
section
variable {X : Cx} {o e : Expr} {to te : TE} {f : Str} {p' pos : Pos} {B newId sa ow : String} {T : List Value}
end
section
variable {X : Cx} {e : Expr} {es : List Expr} {ta : TA} {p pos : Pos} {B newId initId : String} {T : List Value}
end
section
variable {P : Program} {w : World} {K : PySem.W.Frag} {mg : Str → Option Value} {base : Heap}
end
section
variable {X : Cx} {C : CXT} {k j : Nat} {x : Str} {f : Addr} {fd : FuncData} {ps : List Str} {sp : Sp} {E : L2.St → XK} {p pos : Pos} {e : Expr} {es : List Expr} {t : TA} {W : WX}
end
end Ck

namespace Ck
open PySem PySem.Spec PyProof.Rows L2
section
variable {X : Cx} {body : List Stmt} {h₀ : ExceptHandler} {hds : List ExceptHandler} {l : List Cl3} {pos : Pos} {tb : WX → TS} {Wo : WX}
end
end Ck

namespace Ck
open PySem PySem.Spec PyProof.Rows L2
section
variable {X : Cx} {x fld : Str} {B newId initId : String} {T : List Value} {C : Addr} {j : Nat} {e : Expr} {ta : TA} {p pos : Pos}
end
section
variable {P : Program} {w : World} {K : PySem.W.Frag} {mg : Str → Option Value} {base : Heap}
end
end Ck

namespace Ck
open PySem PySem.Spec PyProof.Rows L2
theorem sorted_one : ∀ {as bs : List Int}, as.Pairwise (· < ·) → bs.Pairwise (· < ·) → (∀ k, k ∈ as ↔ k ∈ bs) → as = bs
  | [], [], _, _, _ => rfl
  | [], b :: bs, _, _, h => nomatch (h b).mpr List.mem_cons_self
  | a :: as, [], _, _, h => nomatch (h a).mp List.mem_cons_self
  | a :: as, b :: bs, ha, hb, h => by
    obtain ⟨a1, a2⟩ := List.pairwise_cons.mp ha
    obtain ⟨b1, b2⟩ := List.pairwise_cons.mp hb
    have e : a = b := by
      rcases List.mem_cons.mp ((h a).mp List.mem_cons_self) with e | m1
      · exact e
      rcases List.mem_cons.mp ((h b).mpr List.mem_cons_self) with e | m2
      · exact e.symm
      have := b1 a m1
      have := a1 b m2
      omega
    subst e
    refine congrArg (a :: ·) (sorted_one a2 b2 fun k => ⟨fun hk => ?_, fun hk => ?_⟩)
    · rcases List.mem_cons.mp ((h k).mp (List.mem_cons_of_mem a hk)) with e | m
      · have := a1 k hk; omega
      · exact m
    · rcases List.mem_cons.mp ((h k).mpr (List.mem_cons_of_mem a hk)) with e | m
      · have := b1 k hk; omega
      · exact m
section
variable {K : PySem.W.Frag} {w : World} {σ : L2.St} {H : Hp} {te : TE} {ns us : List Int} {D : Ends} {z : TS} {i : Nat}
end
section
variable {K : PySem.W.Frag} {σ : L2.St} {H : Hp} {ta tb : TE} {t : TT} {d : PyData}
end
end Ck

namespace Ck
open PySem PySem.Spec PyProof.Rows L2 Evl
def insI (k : Int) : List Int → List Int
  | [] => [k]
  | a :: r => if k < a then k :: a :: r else if k = a then a :: r else a :: insI k r
def uni (ns : List Int) : List Int := ns.foldr insI []
theorem insI_mem {k j : Int} : ∀ {ns : List Int}, j ∈ insI k ns ↔ j = k ∨ j ∈ ns
  | [] => by unfold insI; simp
  | a :: r => by
    unfold insI
    split
    · exact List.mem_cons
    · split
      · next h => subst h; simp
      · rw [List.mem_cons, insI_mem, List.mem_cons]
        constructor <;> (intro h; rcases h with h | h | h <;> simp [h])
theorem insI_pw {k : Int} : ∀ {ns : List Int}, ns.Pairwise (· < ·) → (insI k ns).Pairwise (· < ·)
  | [], _ => by unfold insI; simp
  | a :: r, h => by
    obtain ⟨h1, h2⟩ := List.pairwise_cons.mp h
    unfold insI
    split
    · next l => exact List.pairwise_cons.mpr ⟨fun b hb => by
        rcases List.mem_cons.mp hb with rfl | hb
        · exact l
        · exact Int.lt_trans l (h1 b hb), h⟩
    · split
      · exact h
      · refine List.pairwise_cons.mpr ⟨fun b hb => ?_, insI_pw h2⟩
        rcases insI_mem.mp hb with rfl | hb
        · omega
        · exact h1 b hb
theorem uni_mem {k : Int} : ∀ {ns : List Int}, k ∈ uni ns ↔ k ∈ ns
  | [] => Iff.rfl
  | a :: r => by
    show k ∈ insI a (uni r) ↔ _
    rw [insI_mem, uni_mem, List.mem_cons]
theorem uni_pw : ∀ {ns : List Int}, (uni ns).Pairwise (· < ·)
  | [] => .nil
  | _ :: _ => insI_pw uni_pw
theorem uni_one {us ns : List Int} (h1 : us.Pairwise (· < ·)) (h2 : ∀ k, k ∈ us ↔ k ∈ ns) : uni ns = us := sorted_one uni_pw h1 fun k => uni_mem.trans (h2 k).symm
def Dv (a b : Int) : Prop := a < b ∧ b % a = 0
theorem asc_step {x y : Int} {r : List Int} (h : asc (x :: y :: r) = true) : x < y ∧ asc (y :: r) = true := by
  have h' : (decide (x < y) && asc (y :: r)) = true := h
  rw [Bool.and_eq_true] at h'
  exact ⟨of_decide_eq_true h'.1, h'.2⟩
theorem gap_step {x y : Int} {r : List Int} (h : gap (x :: y :: r) = none) : y % x = 0 ∧ gap (y :: r) = none := by
  have h' : ((x, y) :: adj (fun x y => (x, y)) (y :: r)).find? (fun p => !decide (p.2 % p.1 = 0)) = none := h
  rw [List.find?_cons] at h'
  cases z : decide (y % x = 0) with
  | true =>
    rw [z] at h'
    exact ⟨of_decide_eq_true z, h'⟩
  | false =>
    rw [z] at h'
    cases h'
theorem chain_pw : ∀ {ns : List Int}, asc ns = true → gap ns = none → (∀ n ∈ ns, 0 < n) → ns.Pairwise Dv
  | [], _, _, _ => .nil
  | [_], _, _, _ => List.pairwise_singleton _ _
  | x :: y :: r, h1, h2, h3 => by
    obtain ⟨a1, a2⟩ := asc_step h1
    obtain ⟨g1, g2⟩ := gap_step h2
    have ih := chain_pw a2 g2 fun n hn => h3 n (List.mem_cons_of_mem x hn)
    refine List.pairwise_cons.mpr ⟨fun b hb => ?_, ih⟩
    rcases List.mem_cons.mp hb with rfl | hb
    · exact ⟨a1, g1⟩
    · obtain ⟨l, d⟩ := (List.pairwise_cons.mp ih).1 b hb
      refine ⟨Int.lt_trans a1 l, Int.emod_eq_zero_of_dvd (Int.dvd_trans (Int.dvd_of_emod_eq_zero g1) (Int.dvd_of_emod_eq_zero d))⟩
theorem pw_gap : ∀ {ns : List Int}, ns.Pairwise Dv → gap ns = none
  | [], _ => rfl
  | [_], _ => rfl
  | x :: y :: r, h => by
    obtain ⟨h1, h2⟩ := List.pairwise_cons.mp h
    have d := (h1 y List.mem_cons_self).2
    show ((x, y) :: adj (fun x y => (x, y)) (y :: r)).find? (fun p => !decide (p.2 % p.1 = 0)) = none
    rw [List.find?_cons, decide_eq_true d]
    exact pw_gap h2
theorem pw_asc : ∀ {ns : List Int}, ns.Pairwise (· < ·) → asc ns = true
  | [], _ => rfl
  | [_], _ => rfl
  | x :: y :: r, h => by
    obtain ⟨h1, h2⟩ := List.pairwise_cons.mp h
    show (decide (x < y) && asc (y :: r)) = true
    rw [decide_eq_true (h1 y List.mem_cons_self), pw_asc h2]
    rfl
structure IsC (ns : List Int) : Prop where
  ne : ns ≠ []
  le : ns.length ≤ 12
  sz : ∀ n ∈ ns, 0 < n ∧ n.natAbs < 10 ^ 200
  pw : ns.Pairwise Dv
section
variable {K : PySem.W.Frag} {w : World} {σ : L2.St} {H : Hp} {ta tb te tl : TE} {tr : TA} {t : TT} {D : Ends} {body z : TS} {ns us : List Int} {xs : List V} {Pr : V → Hp → Prop} {S : L2.St → Prop} {n j : Nat}
theorem etu_of (h : Evl.EvU te σ H xs) : Etu K te σ H xs := fun H1 e Q q => h H1 e _ fun p H2 _ e2 hp => q p H2 e2 (SqT.of hp)
end
end Ck

namespace PySem
namespace CkM
open PySem PyProof.Rows
abbrev lsO (xs : Array Value) (c : Nat) : Obj := { cls := .type "list", dict := none, data := .seq xs c, slots := #[] }
def KeepX (wr : List Addr) (S : Addr) (h h' : Heap) : Prop := ∀ b o, b ∉ wr → b ≠ S → h.get? b = some o → h'.get? b = some o
section
variable {prog : Program} {w : World} {A : Around} {R : Result → Shared → Prop} {I : Addr} {fp wr : List Addr} {n : Nat} {P : Nat → Value → Prop} {St : Nat → Heap → Prop} -- own
theorem min_again {d : Value} (W : Walks prog w A.in1 I fp wr n P St) (bt : Nat → Nat → Bool) (hcmp : CmpOf prog w A.in1 .Lt P bt) (S : Addr) (hSf : S ∉ fp) : -- own
    ∀ (k j : Nat) (s : Shared) (vb : Value) (c : Nat), k + (j + 1) = n → St (j + 1) s.heap → P (argBest bt j) vb → s.heap.get? S = some (lsO #[vb, vb] c) → -- own
    (∀ v h' tk, P (argBest bt (n - 1)) v → KeepX wr S s.heap h' → R (.ok (.ret v)) ⟨h', s.gens, s.drawn, tk, s.os⟩) → codeAny (model prog w) A (.builtin "min.loop" ⟨[.ref I, .none, .ref S], [(Str.ofString "default", d)]⟩) R s := by -- own
  have hSw : S ∉ wr := fun h => hSf (W.sub _ h) -- own
  have nm : (toString "min" ++ toString ".loop" : String) = "min.loop" := by decide -- own
  intro k -- own
  induction k with
  | zero =>
    intro j s vb c hk hst hPb hS hR -- own
    have hin : j + 1 = n := by omega -- own
    refine codeAny_builtin PySem.F.entry_min_loop ?_ -- own
    rw [Around.under_plainId PySem.F.plain_min_loop _] -- own
    show wpAny _ A.in1 (seqItems? (.ref S) >>= _) _ _ s -- own
    refine wpAny_bind (wpAny_seqItems hS rfl ?_) -- own
    show wpAny _ A.in1 (tryCatch (pyNext (.ref I)) _ >>= _) _ _ s -- own
    refine wpAny_bind (wpAny_tryCatch (W.done s _ _ (hin ▸ hst) fun h' tk kp => ?_)) -- own
    have hS' := kp S _ hSw hS -- own
    show wpAny _ A.in1 (updateSeq S (fun _ => #[]) >>= _) _ _ _ -- own
    refine wpAny_bind (wpAny_updateSeq hS' rfl (wpAny_bind (wpAny_letGo (wpAny_pure ?_)))) -- own
    exact hR vb _ tk (by rw [← hin]; exact hPb) fun b o b1 b2 e => (Heap.get?_update_other _ _ (Ne.symm b2)).trans (kp b o b1 e) -- own
  | succ k ih =>
    intro j s vb c hk hst hPb hS hR -- own
    have hlt : j + 1 < n := by omega -- own
    refine codeAny_builtin PySem.F.entry_min_loop ?_ -- own
    rw [Around.under_plainId PySem.F.plain_min_loop _] -- own
    show wpAny _ A.in1 (seqItems? (.ref S) >>= _) _ _ s -- own
    refine wpAny_bind (wpAny_seqItems hS rfl ?_) -- own
    show wpAny _ A.in1 (tryCatch (pyNext (.ref I)) _ >>= _) _ _ s -- own
    refine wpAny_bind (wpAny_tryCatch (W.item (j + 1) s _ _ hlt hst fun v h' tk hP hst' kp => ?_)) -- own
    have hS' := kp S _ hSw hS -- own
    show wpAny _ A.in1 (tryCatch (holding [v, v] (richCompare .Lt v vb >>= _)) _ >>= _) _ _ _ -- own
    refine wpAny_bind (wpAny_tryCatch (wpAny_holding (wpAny_bind (hcmp (j + 1) (argBest bt j) v vb _ _ _ hP hPb (wpAny_bind (wpAny_holding (wpAny_truthy_bool (wpAny_bind (wpAny_letGo (wpAny_pure ?_)))))))))) -- own
    cases hb : bt (j + 1) (argBest bt j) with
    | true =>
      simp only [if_true] -- own
      refine wpAny_bind (wpAny_updateSeq hS' rfl (wpAny_bind (wpAny_letGo ?_))) -- own
      rw [nm] -- own
      refine wpAny_pure ⟨plainId_quiet PySem.F.plain_min_loop _, ih (j + 1) _ v _ (by omega) (W.frame _ _ _ hst' fun b hbf o e => (Heap.get?_update_other _ _ (fun h : S = b => hSf (by rw [h]; exact hbf))).trans e) (by simp only [argBest, hb, if_true]; exact hP) (Heap.get?_update_self _ hS' rfl) fun v' h2 t2 hP2 kp2 => ?_⟩ -- own
      exact hR v' h2 t2 hP2 fun b o b1 b2 e => kp2 b o b1 b2 ((Heap.get?_update_other _ _ (Ne.symm b2)).trans (kp b o b1 e)) -- own
    | false =>
      simp only [Bool.false_eq_true, if_false] -- own
      refine wpAny_bind (wpAny_letGo ?_) -- own
      rw [nm] -- own
      refine wpAny_pure ⟨plainId_quiet PySem.F.plain_min_loop _, ih (j + 1) _ vb c (by omega) hst' (by simp only [argBest, hb, Bool.false_eq_true, if_false]; exact hPb) hS' fun v' h2 t2 hP2 kp2 => ?_⟩ -- own
      exact hR v' h2 t2 hP2 fun b o b1 b2 e => kp2 b o b1 b2 (kp b o b1 e) -- own
theorem min_begin {d : Value} (W : Walks prog w A.in1 I fp wr n P St) (bt : Nat → Nat → Bool) (hcmp : CmpOf prog w A.in1 .Lt P bt) (S : Addr) (hSf : S ∉ fp) {s : Shared} {c : Nat} (hst : St 0 s.heap) (hS : s.heap.get? S = some (lsO #[] c)) -- own
    (h0 : n = 0 → ∀ h' tk, KeepX wr S s.heap h' → R (.ok (.ret d)) ⟨h', s.gens, s.drawn, tk, s.os⟩) -- own
    (hR : 0 < n → ∀ v h' tk, P (argBest bt (n - 1)) v → KeepX wr S s.heap h' → R (.ok (.ret v)) ⟨h', s.gens, s.drawn, tk, s.os⟩) : codeAny (model prog w) A (.builtin "min.loop" ⟨[.ref I, .none, .ref S], [(Str.ofString "default", d)]⟩) R s := by -- own
  have hSw : S ∉ wr := fun h => hSf (W.sub _ h) -- own
  have nm : (toString "min" ++ toString ".loop" : String) = "min.loop" := by decide -- own
  refine codeAny_builtin PySem.F.entry_min_loop ?_ -- own
  rw [Around.under_plainId PySem.F.plain_min_loop _] -- own
  show wpAny _ A.in1 (seqItems? (.ref S) >>= _) _ _ s -- own
  refine wpAny_bind (wpAny_seqItems hS rfl ?_) -- own
  show wpAny _ A.in1 (tryCatch (pyNext (.ref I)) _ >>= _) _ _ s -- own
  by_cases hn : 0 < n
  · refine wpAny_bind (wpAny_tryCatch (W.item 0 s _ _ hn hst fun v h' tk hP hst' kp => ?_)) -- own
    have hS' := kp S _ hSw hS -- own
    show wpAny _ A.in1 (updateSeq S (fun _ => #[v, v]) >>= _) _ _ _ -- own
    refine wpAny_bind (wpAny_updateSeq hS' rfl ?_) -- own
    rw [nm] -- own
    refine wpAny_pure ⟨plainId_quiet PySem.F.plain_min_loop _, min_again W bt hcmp S hSf (n - 1) 0 _ v _ (by omega) (W.frame _ _ _ hst' fun b hbf o e => (Heap.get?_update_other _ _ (fun h : S = b => hSf (by rw [h]; exact hbf))).trans e) hP (Heap.get?_update_self _ hS' rfl) fun v' h2 t2 hP2 kp2 => ?_⟩ -- own
    exact hR hn v' h2 t2 hP2 fun b o b1 b2 e => kp2 b o b1 b2 ((Heap.get?_update_other _ _ (Ne.symm b2)).trans (kp b o b1 e)) -- own
  · have z : n = 0 := by omega -- own
    refine wpAny_bind (wpAny_tryCatch (W.done s _ _ (z ▸ hst) fun h' tk kp => ?_)) -- own
    show wpAny _ A.in1 (rule _ >>= _) _ _ _ -- own
    exact wpAny_bind (wpAny_rule (wpAny_pure (h0 z h' tk fun b o b1 _ e => kp b o b1 e))) -- own
end
section
variable {prog : Program} {w : World} {A : Around} {E : Value → Shared → Prop} {s : Shared} -- own
theorem call_treeK {id : String} {b : Builtin} {args : List Value} {kw : List (Str × Value)} {Q : Value → Shared → Prop} (hk : builtinKind id = none) (hp : plainId id = true) (hb : entryFor table id = some b) (ha : argsOk id ⟨args, kw⟩) -- own
    (hc : wpAny (model prog w) A.in1 (b ⟨args, kw⟩) (fun fin s' => match fin with
      | .done f => (match (Except.ok f : Result) with | .ok (.ret v) => Q v s' | .ok _ => False | .error e => E e s') -- own
      | .again c' => c'.quiet = true ∧ codeAny (model prog w) A c' (fun r s' => match r with | .ok (.ret v) => Q v s' | .ok _ => False | .error e => E e s') s') E s) : wpAny (model prog w) A (call (.builtin id) args kw) Q E s := by -- own
  refine wpAny_call (codeAny_call_builtin hp hb ?_) -- own
  simp only [checkBuiltinCall, hk] -- own
  cases hsig : Manifest.signature? id with
  | none => exact wpAny_pure hc -- own
  | some sig =>
    have ha' : Bind.checkArgs id sig ⟨args, kw⟩ = pure () := by simpa only [argsOk, hsig] using ha -- own
    simp only [ha'] -- own
    exact wpAny_pure hc -- own
theorem args_minK (a d : Value) : argsOk "min" ⟨[a], [(Str.ofString "default", d)]⟩ := by unfold argsOk; kernel_rfl -- own
theorem min_call {x d : Value} {Q : Value → Shared → Prop} -- own
    (h : wpAny (model prog w) A.in1 (pyIter x) (fun it s₂ => ∃ I fp wr n P St bt, it = .ref I ∧ Walks prog w A.in1 I fp wr n P St ∧ St 0 s₂.heap ∧ (∀ b ∈ fp, b < s₂.heap.objs.size) ∧ CmpOf prog w A.in1 .Lt P bt ∧ -- own
      (n = 0 → ∀ h' tk, (∀ b o, b ∉ wr → s₂.heap.get? b = some o → h'.get? b = some o) → Q d ⟨h', s₂.gens, s₂.drawn, tk, s₂.os⟩) ∧ -- own
      (0 < n → ∀ v h' tk, P (argBest bt (n - 1)) v → (∀ b o, b ∉ wr → s₂.heap.get? b = some o → h'.get? b = some o) → Q v ⟨h', s₂.gens, s₂.drawn, tk, s₂.os⟩)) E s) : -- own
    wpAny (model prog w) A (call (.builtin "min") [x] [(Str.ofString "default", d)]) Q E s := by -- own
  have nm : (toString "min" ++ toString ".loop" : String) = "min.loop" := by decide -- own
  refine call_treeK PySem.F.kind_min PySem.F.plain_min PySem.F.entry_min (args_minK _ _) ?_ -- own
  show wpAny _ A.in1 (Builtin.Builtins.bindParams "min" ["key", "default"] 0 ⟨[], [(Str.ofString "default", d)]⟩ >>= _) _ _ s -- own
  refine wpAny_bind (wpAny_of_eq (show Builtin.Builtins.bindParams "min" ["key", "default"] 0 ⟨[], [(Str.ofString "default", d)]⟩ = pure [none, some d] from rfl) ?_) -- own
  refine wpAny_bind (wpAny_pure (wpAny_bind (wpAny_mono h (fun it s₂ h₂ => ?_) fun _ _ e => e))) -- own
  obtain ⟨I, fp, wr, n, P, St, bt, rfl, W, hst, hfp, hcmp, q0, q1⟩ := h₂ -- own
  refine wpAny_bind (wpAny_newObj_type ?_) -- own
  have hSf : s₂.heap.objs.size ∉ fp := fun hm => Nat.lt_irrefl _ (hfp _ hm) -- own
  rw [nm] -- own
  refine wpAny_pure ⟨plainId_quiet PySem.F.plain_min_loop _, min_begin W bt hcmp s₂.heap.objs.size hSf (W.frame _ _ _ hst fun b _ o e => Heap.get?_push_of_some _ e) (Heap.get?_push_size _ rfl) (fun z h' tk kp => ?_) (fun z v h' tk hP kp => ?_)⟩ -- own
  · exact q0 z h' tk fun b o b1 e => kp b o b1 (Nat.ne_of_lt (Heap.lt_size e)) (Heap.get?_push_of_some _ e) -- own
  · exact q1 z v h' tk hP fun b o b1 e => kp b o b1 (Nat.ne_of_lt (Heap.lt_size e)) (Heap.get?_push_of_some _ e) -- own
theorem min_ints {l : Addr} {xs : Array (Int × Tok)} {d : Value} {Q : Value → Shared → Prop} (hh : A.handled = none) (hl : s.heap.IsList l (intItems xs)) -- own
    (h0 : xs.size = 0 → ∀ h' tk, (∀ b o, s.heap.get? b = some o → h'.get? b = some o) → Q d ⟨h', s.gens, s.drawn, tk, s.os⟩) -- own
    (h : 0 < xs.size → ∀ v h' tk, (intItems xs)[argBest (fun i j => decide (numAt xs i < numAt xs j)) (xs.size - 1)]? = some v → (∀ b o, s.heap.get? b = some o → h'.get? b = some o) → Q v ⟨h', s.gens, s.drawn, tk, s.os⟩) : -- own
    wpAny (model prog w) A (call (.builtin "min") [.ref l] [(Str.ofString "default", d)]) Q E s := by -- own
  refine min_call (iter_intList hl fun s₂ e st hfp hlI => ?_) -- own
  subst e
  have ez : (intItems xs).size = xs.size := by simp [intItems] -- own
  refine ⟨_, _, _, _, _, _, _, rfl, Walks.list (A := A.in1) hh _ l hlI (intItems xs), st, hfp, CmpOf.ints_lt (numAt xs) (fun _ _ => intItems_at), fun z h' tk kp => ?_, fun z v h' tk hP kp => ?_⟩ -- own
  · exact h0 (by rw [← ez]; exact z) h' tk (old_kept kp) -- own
  · exact h (by rw [← ez]; exact z) v h' tk (by rw [← ez]; exact hP) (old_kept kp) -- own
end
end CkM
end PySem
namespace Ck
open PySem PySem.Spec PyProof.Rows L2
section
variable {X : Cx}
def rMinD (K : PySem.W.Frag) : List V → List V → Hp → VK → Prop := fun vs zs H Q => ∃ (a : Addr) (ns : List Int) (d : V), vs = [V.ref a] ∧ zs = [d] ∧ SqL K H a (ns.map V.int) ∧ (ns = [] → Q d H) ∧ ∀ m, m ∈ ns → (∀ y, y ∈ ns → m ≤ y) → Q (.int m) H
theorem cr_minD (hc : X.calm = true) : CallRK X (.builtin "min") [Str.ofString "default"] (rMinD X.K) := by
  intro pins s σ H vs zs us ws Q I r rz h
  obtain ⟨a, ns, d, rfl, rfl, hs, q0, q⟩ := h
  obtain ⟨its, rv, hl, _⟩ := I.list hs
  obtain ⟨w1, rfl, e1⟩ := vals1 rz
  rw [Vals.ref1 r]
  have hi := rv.ints
  obtain ⟨xs, e⟩ := hi.allInts.items
  have hn : numsOf (intItems xs).toList = ns := by rw [← e]; exact hi.numsOf
  rw [nums_intItems] at hn
  subst hn
  have hl' := hl.isList
  rw [e] at hl'
  refine PySem.CkM.min_ints (I.ok.hd hc) hl' (fun z h' tk hk => ?_) (fun z v h' tk hv hk => ?_)
  · exact ⟨d, H, I.kept hk, e1, q0 (by rw [List.map_eq_nil_iff]; exact List.eq_nil_of_length_eq_zero (by rw [Array.length_toList]; exact z))⟩
  · obtain ⟨t, rfl⟩ := intItems_at hv
    obtain ⟨h1, h2⟩ := argBest_lt (numAt xs) (xs.size - 1)
    refine ⟨.int _, H, I.kept hk, ⟨_, rfl⟩, q _ ?_ fun a ha => ?_⟩
    · rw [numAt_eq]; exact PySem.getD_mem (by rw [List.length_map, Array.length_toList]; omega)
    · obtain ⟨j, hj, rfl⟩ := mem_getD ha
      rw [List.length_map, Array.length_toList] at hj
      rw [← numAt_eq]; exact h2 j (by omega)
end
end Ck

namespace Ck
open PySem PySem.Spec PyProof.Rows L2 Evl
inductive F2 {α : Type} (R : V → α → Prop) : List V → List α → Prop
  | nil : F2 R [] []
  | cons {x : V} {a : α} {xs : List V} {as : List α} (h : R x a) (t : F2 R xs as) : F2 R (x :: xs) (a :: as)
theorem F2.imp {α : Type} {R S : V → α → Prop} (h : ∀ x a, R x a → S x a) : ∀ {xs : List V} {as : List α}, F2 R xs as → F2 S xs as
  | _, _, .nil => .nil
  | _, _, .cons a t => .cons (h _ _ a) (F2.imp h t)
theorem F2.app {α : Type} {R : V → α → Prop} : ∀ {xs ys : List V} {as bs : List α}, F2 R xs as → F2 R ys bs → F2 R (xs ++ ys) (as ++ bs)
  | _, _, _, _, .nil, h => h
  | _, _, _, _, .cons a t, h => .cons a (F2.app t h)
theorem F2.len {α : Type} {R : V → α → Prop} : ∀ {xs : List V} {as : List α}, F2 R xs as → xs.length = as.length
  | _, _, .nil => rfl
  | _, _, .cons _ t => congrArg (· + 1) (F2.len t)
theorem F2.at {α : Type} {R : V → α → Prop} : ∀ {xs : List V} {as : List α}, F2 R xs as → ∀ {i : Nat} {x : V}, xs[i]? = some x → ∃ a, as[i]? = some a ∧ R x a
  | _, _, .nil, i, x, h => by simp at h
  | _, _, .cons a t, 0, x, h => by
    obtain rfl := Option.some.inj h
    exact ⟨_, rfl, a⟩
  | _, _, .cons a t, i + 1, x, h => F2.at t (i := i) h
section
variable {K : PySem.W.Frag} {H H' : Hp}
theorem sqT_updL {t l : Addr} {xs ys : List V} {o : HO} (h : SqT K H t xs) (hl : H l = some (.lst ys)) : SqT K (upd H l o) t xs := by
  by_cases e : t = l
  · subst e
    rcases h with (z | ⟨o', z⟩) | z
    · rw [hl] at z; cases z
    · rw [hl] at z; cases z
    · exact .inr z
  · rcases h with (z | ⟨o', z⟩) | z
    · exact .inl (.inl (by rw [upd_ne e]; exact z))
    · exact .inl (.inr ⟨o', by rw [upd_ne e]; exact z⟩)
    · exact .inr z
end
section
variable {K : PySem.W.Frag} {σ : L2.St} {H : Hp} {tl te : TE} {tt : TT} {a : Addr} {ns : List Int} {j : Nat} {ws : List Nat} {α : Type} {R : Hp → V → α → Prop} {c : Int → Bool} {e : Int → α}
def EvR (R : Hp → V → α → Prop) (te : TE) (σ : L2.St) (H : Hp) (x : α) : Prop := ∀ H1, Ex H H1 → ∀ Q : VK, (∀ v H2, Ex H1 H2 → R H2 v x → Q v H2) → te σ H1 Q
theorem lc_tupF (L : ∀ H H' x b, Ex H H' → R H x b → R H' x b) (LU : ∀ H l xs ys x b, H l = some (.lst xs) → R H x b → R (upd H l (.lst ys)) x b) (h : Ev tl σ H (.ref a)) (hx : SqT K H a (ns.map V.int)) (hz : ns.length ≤ 40000) (hw : ∀ x, wipe ((wipe σ ws).set j (some x)) ws = wipe σ ws)
    (ht : ∀ n ∈ ns, ∀ H1, Ex H H1 → EvT tt ((wipe σ ws).set j (some (.int n))) H1 (c n)) (he : ∀ n ∈ ns, c n = true → ∀ H1, Ex H H1 → EvR R te ((wipe σ ws).set j (some (.int n))) H1 (e n)) :
    ∀ H1, Ex H H1 → ∀ Q : VK, (∀ D vs H2, H1 D = none → Ex H1 H2 → H2 D = some (.lst vs) → F2 (R H2) vs ((ns.filter c).map e) → Q (.ref D) H2) → tLc (iTup K tl) (gName j) tt te ws σ H1 Q := fun H0 e0 Q q => h H0 e0 _ fun H1 e1 => ⟨a, rfl, ⟨_, ex_t (e0.trans e1) hx⟩, fun D hD => by
  refine lc_it walk_tup (fun i H' => H1 D = none ∧ Ex H1 H' ∧ ∃ vs, H' D = some (.lst vs) ∧ vs.length ≤ i ∧ F2 (R H') vs (((ns.take i).filter c).map e)) ⟨hD, Ex.new hD, [], upd_same, Nat.le_refl _, .nil⟩ (fun i H' _ p => ex_t ((e0.trans e1).trans p.2.1) hx) ?_ ?_
  · rintro i x H2 H3 hi ⟨p1, p2, vs, p3, p4, p5⟩ ⟨e3, hxi⟩
    rw [e3]
    rw [List.length_map] at hi
    rw [List.getElem?_map, List.getElem?_eq_getElem hi] at hxi
    obtain rfl := Option.some.inj hxi
    have m := List.getElem_mem hi
    have e02 := (e0.trans e1).trans p2
    refine ⟨hw _, ht _ m H2 e02 H2 (Ex.refl H2) _ fun H4 e4 => ?_⟩
    have st : ns.take (i + 1) = ns.take i ++ [ns[i]] := by rw [List.take_add_one, List.getElem?_eq_getElem hi]; rfl
    cases hc : c ns[i] with
    | true =>
      refine iteT (he _ m hc H4 (e02.trans e4) H4 (Ex.refl H4) _ fun v H5 e5 hv => ⟨vs, (e4.trans e5) _ _ p3, sz_lt (by omega), p1, Ex.mut (p2.trans (e4.trans e5)) p1, vs ++ [v], upd_same, by rw [List.length_append]; exact Nat.succ_le_succ p4, ?_⟩)
      have hD5 : H5 D = some (.lst vs) := (e4.trans e5) _ _ p3
      rw [st, List.filter_append, List.map_append, show [ns[i]].filter c = [ns[i]] by rw [List.filter_cons, hc]; rfl]
      exact ((p5.imp fun x b r => LU _ _ _ _ _ _ hD5 (L _ _ _ _ (e4.trans e5) r)).app (.cons (LU _ _ _ _ _ _ hD5 hv) .nil))
    | false =>
      refine iteF ⟨p1, p2.trans e4, vs, e4 _ _ p3, Nat.le_succ_of_le p4, ?_⟩
      rw [st, List.filter_append, show [ns[i]].filter c = [] by rw [List.filter_cons, hc]; rfl, List.append_nil]
      exact p5.imp fun x b r => L _ _ _ _ e4 r
  · rintro H2 ⟨p1, p2, vs, p3, _, p5⟩
    rw [List.length_map, List.take_of_length_le (Nat.le_refl _)] at p5
    exact q D vs H2 (fresh_back e1 p1) (e1.trans p2) p3 p5⟩
end
end Ck

namespace PySem
namespace CkM
open PySem PyProof.Rows
section
variable {prog : Program} {w : World} {A : Around} {R : Result → Shared → Prop} {I : Addr} {fp wr : List Addr} {n : Nat} {P : Nat → Value → Prop} {St : Nat → Heap → Prop} {key : Value} {kwd : List (Str × Value)} {val : Nat → Nat} -- own
end
section
variable {prog : Program} {w : World} {A : Around} {E : Value → Shared → Prop} {s : Shared} -- own
end
end CkM
end PySem
namespace Ck
open PySem PySem.Spec PyProof.Rows L2 Evl
section
variable {X : Cx} {e de : Expr} {te td : TE} {p p1 p2 k1 k2 k3 pos : Pos}
theorem eqv_tups : ∀ (ms ns : List Int), PyData.eqvAll (ms.map PyData.int) (ns.map PyData.int) = decide (ms = ns)
  | [], [] => by simp [PyData.eqvAll]
  | [], _ :: _ => by simp [PyData.eqvAll]
  | _ :: _, [] => by simp [PyData.eqvAll]
  | m :: ms, n :: ns => by
    simp only [List.map_cons, PyData.eqvAll, PyData.eqv, eqv_tups ms ns]
    by_cases e : m = n
    · subst e; simp
    · rw [decide_eq_false (show ¬ (m :: ms = n :: ns) from fun z => e (List.cons.inj z).1), show (m == n) = false from by simp [e]]; rfl
end
end Ck

namespace Ck
open PySem PySem.Spec PyProof.Rows L2 Evl
section
variable {X : Cx} {o : Expr} {p pos apos mpos : Pos} {td : TE}
end
end Ck

namespace Ck
open PySem PySem.Spec PyProof.Rows L2
end Ck

namespace Ck
open PySem PySem.Spec PyProof.Rows L2 Evl
section
variable {K : PySem.W.Frag} {σ : L2.St} {H : Hp} {tl te : TE} {tt : TT} {a : Addr} {xs : List V} {j : Nat} {ws : List Nat} {α β : Type} {R : Hp → V → α → Prop} {R' : Hp → V → β → Prop} {as : List α} {c : α → Bool} {e : α → β}
end
end Ck

namespace Ck
open PySem PySem.Spec PyProof.Rows L2
section
variable {X : Cx} {pins : List (Addr × Obj)} {σ : L2.St} {H : Hp} {s : Shared} {D a : Addr} {fs : List (Str × V)}
end
end Ck
namespace Ck
open PySem PySem.Spec PyProof.Rows L2
end Ck
namespace Ck
open PySem PySem.Spec PyProof.Rows L2
def NoSm (base : Heap) : Prop := ∃ mm, base.Ns sysModules mm
section
variable {K : PySem.W.Frag} {H H' : Hp}
end
section
variable {X : Cx} {pins : List (Addr × Obj)} {σ : L2.St} {H : Hp} {s : Shared}
end
end Ck

namespace Ck
open PySem PySem.Spec PyProof.Rows L2
section
variable {P : Program} {w : World} {K : PySem.W.Frag} {mg mb : Str → Option Value} {k : Nat} {fa a : Addr} {fd : FuncData} {x : Str} {sp : Sp} {s₁ : Shared} {vs : List Value} {ns : List Int}
end
end Ck

namespace PySem
namespace CkX
open HandSPX Builtin
section
variable {prog : Program} {w : World} {A : Around} {E : Value → Shared → Prop} {R : Result → Shared → Prop} {h : Heap} {g : Array GenState} {d : Drawn} {t : Nat} {os : OsState}
variable {nm q : Str} {C N : Addr} {bs bm bmB : List Value} {hdct : Bool} {sn : List Str} {sub : List Value} {ab : Bool} {col : Option Bool} {dd : Option Addr} {k0 k1 k2 k3 k5 : Option Value} {B newId initId : String}
end
end CkX
end PySem
namespace Ck
open PySem PySem.Spec PyProof.Rows L2
section
variable {X : Cx} {e : Expr} {es : List Expr} {ta : TA} {p pos : Pos} {B newId initId : String} {T bmB : List Value}
end
section
variable {X : Cx} {x fld : Str} {B newId initId : String} {T bmB : List Value} {C : Addr} {j : Nat} {e : Expr} {ta : TA} {p pos : Pos}
end
end Ck

namespace Ck
open PySem PySem.Spec PyProof.Rows L2 L2H
section
variable {P : Program} {w : World} {K : PySem.W.Frag} {mg : Str → Option Value} {base : Heap}
end
section
variable {X : Cx} {k j : Nat} {x : Str} {sp : Addr → Value → Option Addr → Sp} {p pos : Pos} {e : Expr} {es : List Expr} {t : TA} {a : Addr} {oe : Obj} {pn : List (Addr × Obj)} {cls : Value} {d : Option Addr}
end
end Ck

namespace Ck
open PySem PySem.Spec PyProof.Rows L2 RZ
section
variable {K : PySem.W.Frag} {σ : L2.St} {H H' : Hp} {ta tb te : TE} {tr : TA} {v : V} {d : PyData} {ds es : List PyData}
end
end Ck
namespace Ck
open PySem PySem.Spec PyProof.Rows L2 RZ
section
variable {K : PySem.W.Frag} {d : Addr} {H H' : Hp}
end
end Ck

namespace Ck
open PySem PySem.Spec PyProof.Rows L2 StX
section
variable {P : Program} {w : World} {K : PySem.W.Frag} {mg : Str → Option Value} {base : Heap} {k : Nat} {x : Str} {sp : Sp}
theorem Cl.g (c : Cl P w K mg base k x sp) : Cg P w K mg base CX0 k x sp := by
  obtain ⟨f, fd, ps, F, h1, h2, h3⟩ := c
  exact ⟨f, fd, ps, .of F, h1, h2, h3⟩
end
structure Klass (K : PySem.W.Frag) (mg : Str → Option Value) (x : Str) (C : Addr) : Prop where
  g : mg x = some (.ref C)
  cl : Cls K C
  mks : PySem.W.makesIn K C = true
  kp : PySem.W.keepIn K (.ref C) = true
  ha : PySem.W.findIn K (.ref C) "__class__" = some (some (.builtin "object.__class__"))
  hn : PySem.W.specialIn K (.builtin "object.__class__") "__get__" = some (some (.builtin "getset_descriptor.__get__"))
  ht : PySem.W.takesIn K (.builtin "object.__class__") = some true
theorem Klass.ty {K : PySem.W.Frag} {mg : Str → Option Value} {x : Str} {C a dx : Addr} {fs : List (Str × V)} {H : Hp} (c : Klass K mg x C) (e : H a = some (.ins C dx fs)) : TyX K H (.ref a) (.ref C) :=
  .base (.ins e c.cl c.ha c.hn c.ht (mro_obj c.mks))
section
variable {X : Cx} {CX : CXT} {k n : Nat} {f C : Addr} {fd : FuncData} {ps : List Str} {sp : Sp} {E : XK} {x : Str} {e : Expr} {te : TE} {p sp_ pos : Pos}
theorem pe_makeR0 (M : Mk X.K C f) (F : FnR X.prog X.w X.K X.mg X.base CX k f sp) (hr : Room (k + 1) X.A) (hg : Gl X x) (hm : X.mg x = some (.ref C)) (hx : Passes CX X E) (hdb : (x == ("__debug__" : Str)) = false := by decide) :
    PE X (.Call (.Name x p) [] [] pos) (tMakeR C sp E tNil) := by
  refine ⟨fun pins s σ H Q I h => ?_⟩
  refine wpAny_Call_Name_kw (ld_glob I hg hm ?_ hdb)
  exact PySem.W.callWith_K0 I.kIn M.kp (run_makeR (us := []) (vs := []) M F hr hx I .nil h)
theorem run_ownC {A : Around} {pins : List (Addr × Obj)} {σ : L2.St} {H : Hp} {s : Shared} {us : List Value} {vs : List V} {Q : VK} {R : Result → Shared → Prop}
    (F : FnOk X.prog X.w X.K X.mg X.base CX0 n f fd ps sp) (hb : Binds X.K fd ps []) (hr : Room n A) (hf : A.frames = X.A.frames) (I : Inv X pins σ H s) (r : Vals vs us) (h : sp vs H Q E0)
    (hR : ∀ v u H' s', Inv X pins σ H' s' → RelV v u → Q v H' → R (.ok (.ret u)) s') : codeAny (model X.prog X.w) A (.call (.ref f) ⟨us, []⟩) R s := by
  have hl : us.length = ps.length := r.length.symm.trans (F.len vs H Q E0 h)
  have e0 : Env0 X.prog X.w X.K X.mg X.base A X.stack s H := by
    have e := I.env0
    exact ⟨by rw [hf]; exact e.frames, e.mod, e.bs, e.bsz, e.funs, e.frf, e.hok, e.bare⟩
  refine codeAny_mono (F.run A X.stack s H ⟨us, []⟩ us vs Q E0 hr e0 (by
    have z := hb s us I.kIn (by rw [List.append_nil]; exact hl)
    rw [List.append_nil] at z
    exact z) r h) fun r' s' hq => ?_
  cases r' with
  | error e => exact hq.elim
  | ok fl =>
    cases fl with
    | ret u =>
      obtain ⟨v, H', I', rv, q⟩ := I.after hq
      exact hR v u H' s' I' rv q
    | next => exact hq.elim
    | brk => exact hq.elim
    | cont => exact hq.elim
theorem run_own {A : Around} {pins : List (Addr × Obj)} {σ : L2.St} {H : Hp} {s : Shared} {us : List Value} {vs : List V} {Q : VK} {R : Value → Shared → Prop} {Er : Value → Shared → Prop}
    (F : FnOk X.prog X.w X.K X.mg X.base CX0 n f fd ps sp) (hb : Binds X.K fd ps []) (hr : Room n A) (hf : A.frames = X.A.frames) (I : Inv X pins σ H s) (r : Vals vs us) (h : sp vs H Q E0)
    (hR : ∀ v u H' s', Inv X pins σ H' s' → RelV v u → Q v H' → R u s') : wpAny (model X.prog X.w) A (call (.ref f) us) R Er s :=
  wpAny_call (run_ownC F hb hr hf I r h hR)
abbrev isB (Q : VK) : VK := fun v H' => ∃ b, v = .bl b ∧ Q (.bl b) H'
theorem op_inO (F : FnOk X.prog X.w X.K X.mg X.base CX0 n f fd ps sp) (hs : PySem.W.findIn X.K (.ref C) "__contains__" = some (some (.ref f))) (hf : PySem.W.isFn X.K (.ref f) = true) (hb : Binds X.K fd ps []) (hr : Room n X.A) :
    OpR X (compareOp .In) (fun x y H Q => ∃ a dx fs, y = .ref a ∧ H a = some (.ins C dx fs) ∧ sp [.ref a, x] H (isB Q) E0) := by
  intro pins s σ H x y v u Q I rx ry h
  obtain ⟨a, dx, fs, rfl, ha, hsp⟩ := h
  cases ry
  obtain ⟨mA, J, _⟩ := ins_get I.hok ha
  obtain ⟨od, J, _⟩ := J.look
  obtain ⟨m, hF⟩ := I.fr
  refine PySem.W.in_K hF I.ok.mod.kin J hs hf (run_own (vs := [.ref a, x]) F hb hr rfl I (.cons rfl (.cons rx .nil)) hsp fun v u H' s' I' rv q => ?_)
  obtain ⟨b, rfl, q⟩ := q
  cases rv
  exact wpAny_truthy_bool ⟨.bl b, H', I', rfl, q⟩
theorem op_eqO (F : FnOk X.prog X.w X.K X.mg X.base CX0 n f fd ps sp) (hs : PySem.W.findIn X.K (.ref C) "__eq__" = some (some (.ref f))) (hf : PySem.W.isFn X.K (.ref f) = true) (hb : Binds X.K fd ps []) (hr : Room n X.A) :
    OpR X (compareOp .Eq) (fun x y H Q => ∃ a b dx dy fs gs, x = .ref a ∧ y = .ref b ∧ H a = some (.ins C dx fs) ∧ H b = some (.ins C dy gs) ∧ sp [.ref a, .ref b] H (isB Q) E0) := by
  intro pins s σ H x y v u Q I rx ry h
  obtain ⟨a, b, dx, dy, fs, gs, rfl, rfl, ha, hb', hsp⟩ := h
  cases rx
  cases ry
  obtain ⟨mA, J, _⟩ := ins_get I.hok ha
  obtain ⟨mB, J', _⟩ := ins_get I.hok hb'
  obtain ⟨od, J, _⟩ := J.look
  obtain ⟨od', J', _⟩ := J'.look
  obtain ⟨m, hF⟩ := I.fr
  show wpAny (model X.prog X.w) X.A (richCompare .Eq (.ref a) (.ref b)) (EP X pins σ Q) X.xe s
  refine PySem.W.cmp_K (op := .Eq) (tb := .ref C) hr.units0 hF I.ok.mod.kin J J'.type (by simp [PySem.W.notFirst]) hs hf (run_own (vs := [.ref a, .ref b]) F hb hr rfl I (.cons rfl (.cons rfl .nil)) hsp fun v u H' s' I' rv q => ?_)
  obtain ⟨b, rfl, q⟩ := q
  cases rv
  exact ⟨.bl b, H', I', rfl, q⟩
end
section
variable {M : Model} {prog : Program} {w : World} {A : Around} {E : Value → Shared → Prop} {s : Shared} {K : PySem.W.Frag} {x C : Addr} {ox : Obj} {od : Option Obj}
end
section
variable {X : Cx} {n : Nat} {f C : Addr} {fd : FuncData} {ps : List Str} {sp : Sp}
end
end Ck

namespace Ck
open PySem PySem.Spec PyProof.Rows L2
def ItM (K : PySem.W.Frag) (a b : Addr) : It :=
  ⟨fun i H => ∃ (xs ys : List V) (x y : V), (SqT K H a xs ∧ SqL K H b ys) ∧ xs[i]? = some x ∧ ys[i]? = some y,
    fun i H v H' => ∃ T x y, v = .ref T ∧ H T = none ∧ H' = upd H T (.tup [x, y]) ∧ (∀ us, SqT K H a us → us[i]? = some x) ∧ ∀ us, SqL K H b us → us[i]? = some y,
    fun i H => ∃ xs ys : List V, (SqT K H a xs ∧ SqL K H b ys) ∧ (i = xs.length ∧ i ≤ ys.length ∨ i ≤ xs.length ∧ i = ys.length)⟩
abbrev cells5 (z ti to i1 i2 : Addr) : List Addr := [z, ti, to, i1, i2]
theorem in5 {z ti to i1 i2 c : Addr} (h : c ∈ cells5 z ti to i1 i2) : c = z ∨ c = ti ∨ c = to ∨ c = i1 ∨ c = i2 := by simpa using h
theorem no5 {z ti to i1 i2 c : Addr} (h : c ∉ cells5 z ti to i1 i2) : c ≠ z ∧ c ≠ to ∧ c ≠ i1 ∧ c ≠ i2 :=
  ⟨fun e => h (by simp [e]), fun e => h (by simp [e]), fun e => h (by simp [e]), fun e => h (by simp [e])⟩
def ZipS (a b z ti to i1 i2 : Addr) (i : Nat) (h : Heap) : Prop :=
  IsZip h z ti to .none ∧ IsTupOf2 h ti (.ref i1) (.ref i2) ∧ (∃ x y, IsTupOf2 h to x y) ∧ h.IsTupleIter i1 a i ∧ h.IsListIter i2 b i
theorem turnM {P : Program} {w : World} {K : PySem.W.Frag} {es : List Expr} {kk : Nat} {tp : Pos} {a b z ti to i1 i2 : Addr} (D : ZipSep2 z ti to i1 i2 [i1, a] [i2, b]) (na : a ≠ i1) (nb : b ≠ i2) :
    Turn P w K (.Tuple es kk tp) (ItM K a b) (cells5 z ti to i1 i2) z (ZipS a b z ti to i1 i2) where
  mem := List.mem_cons_self
  obj := by
    rintro i h ⟨s1, s2, ⟨x, y, s3⟩, ⟨o1, e1, _, d1⟩, ⟨o2, e2, _, d2⟩⟩ c hc
    rcases in5 hc with rfl | rfl | rfl | rfl | rfl
    · exact ⟨_, s1, fun v => Data.noConfusion⟩
    · exact ⟨_, s2, fun v => Data.noConfusion⟩
    · exact ⟨_, s3, fun v => Data.noConfusion⟩
    · exact ⟨o1, e1, fun v => by rw [d1]; exact Data.noConfusion⟩
    · exact ⟨o2, e2, fun v => by rw [d2]; exact Data.noConfusion⟩
  keep := by
    rintro i h h' ⟨s1, s2, ⟨x, y, s3⟩, s4, s5⟩ k
    have q : ∀ c, c ∈ cells5 z ti to i1 i2 → ∀ o, h.get? c = some o → h'.get? c = some o := k
    exact ⟨q z (by simp) _ s1, q ti (by simp) _ s2, ⟨x, y, q to (by simp) _ s3⟩, s4.at (q i1 (by simp)), s5.at (q i2 (by simp))⟩
  item := by
    intro X e1 e2 e3 hc i pins s σ H E I hf st hg
    subst e1 e2 e3
    obtain ⟨s1, s2, ⟨x0, y0, s3⟩, s4, s5⟩ := st
    obtain ⟨xs, ys, x, y, ⟨qx, qy⟩, gx, gy⟩ := hg
    obtain ⟨us, ru, pu, _⟩ := I.tuple qx
    obtain ⟨ws, rw', pw, _⟩ := I.list qy
    obtain ⟨u, hu, rxu⟩ := ru.get gx
    obtain ⟨v, hv, ryv⟩ := rw'.get gy
    have hh : X.A.in1.handled = none := I.ok.hd hc
    have lu := (List.getElem?_eq_some_iff.mp hu).1
    have lv := (List.getElem?_eq_some_iff.mp hv).1
    have zl := Heap.lt_size s1
    refine wpAny_pyNext_zipD2_item D (Draws.tuple hh i1 a na us.toArray) (Draws.list hh i2 b nb ws.toArray) s1 s2 s3 ⟨s4, pu⟩ ⟨s5, pw.isList⟩ (by simpa using lu) (by simpa using lv) ?_
    intro u' v' h' tk eu ev z' to' i1' i2' nt sz kp
    obtain rfl : u = u' := Option.some.inj (hu.symm.trans (by simpa using eu))
    obtain rfl : v = v' := Option.some.inj (hv.symm.trans (by simpa using ev))
    refine ⟨_, rfl, wpAny_letOwnedTupleGo_zip (s := { s with heap := h', toks := tk }) z' fun h2 z2 sb => ?_⟩
    have stay : ∀ c o, c ∉ cells5 z ti to i1 i2 → s.heap.get? c = some o → h2.get? c = some o := fun c o n e => by
      obtain ⟨n1, n2, n3, n4⟩ := no5 n
      exact (sb.2 c n1).trans (kp c o n1 n2 n3 n4 e)
    have new : ObjOk X.prog X.w (upd H s.heap.objs.size (.tup [x, y])) h2 s.heap.objs.size (.tup [x, y]) :=
      ⟨(show 2 ≤ sizeLine by decide), [u, v], .cons rxu (.cons ryv .nil), ⟨_, (sb.2 _ (Nat.ne_of_gt zl)).trans nt, rfl, _, rfl⟩⟩
    have J := I.turnedNew (t' := tk) (ch := cells5 z ti to i1 i2) stay hf (Nat.le_refl _) new
    have fr := I.hok.fresh (Nat.le_refl s.heap.objs.size)
    refine ⟨.ref s.heap.objs.size, _, J, rfl, ⟨_, x, y, rfl, fr, rfl, fun l hl => ?_, fun l hl => ?_⟩, ⟨z2, ?_, ⟨u, v, ?_⟩, ?_, ?_⟩, fun c hcm => ?_⟩
    · rw [I.tuple_inj hl qx]; exact gx
    · rw [I.list_inj hl qy]; exact gy
    · exact (sb.2 ti D.TIz).trans (kp ti _ D.TIz D.TITO D.TIi1 D.TIi2 s2)
    · exact (sb.2 to D.TOz).trans to'
    · exact i1'.1.at fun o q => (sb.2 i1 D.zi1.symm).trans q
    · exact i2'.1.at fun o q => (sb.2 i2 D.zi2.symm).trans q
    · have lt : c < s.heap.objs.size := by
        rcases in5 hcm with e | e | e | e | e
        · exact e ▸ zl
        · exact e ▸ Heap.lt_size s2
        · exact e ▸ Heap.lt_size s3
        · obtain ⟨_, q, _⟩ := s4
          exact e ▸ Heap.lt_size q
        · obtain ⟨_, q, _⟩ := s5
          exact e ▸ Heap.lt_size q
      rw [upd_ne (Nat.ne_of_lt lt)]
      exact (hf c hcm).1
  done := by
    intro X e1 e2 e3 hc i pins s σ H E I hf st hg
    subst e1 e2 e3
    obtain ⟨s1, s2, ⟨x0, y0, s3⟩, s4, s5⟩ := st
    obtain ⟨xs, ys, ⟨qx, qy⟩, hend⟩ := hg
    obtain ⟨us, ru, pu, _⟩ := I.tuple qx
    obtain ⟨ws, rw', pw, _⟩ := I.list qy
    have hh : X.A.in1.handled = none := I.ok.hd hc
    have l1 := ru.length
    have l2 := rw'.length
    refine wpAny_pyNext_zipD2_end D (Draws.tuple hh i1 a na us.toArray) (Draws.list hh i2 b nb ws.toArray) s1 s2 s3 ⟨s4, pu⟩ ⟨s5, pw.isList⟩ (by simp; omega) (by simp; omega) (by simp; omega) fun h' tk kp => ⟨rfl, ?_⟩
    refine I.turnedL (t' := tk) (ch := cells5 z ti to i1 i2) (fun c o n e => ?_) hf
    obtain ⟨n1, n2, n3, n4⟩ := no5 n
    exact kp c o n1 n2 n3 n4 e
  self := fun A i s Q E st h => wpAny_pyIter_zip st.1 h
end Ck

namespace Ck
open PySem PySem.Spec PyProof.Rows L2 Evl
def cnt : List (Int × Int) → Int → Option Int
  | [], _ => none
  | p :: r, s => if p.1 = s then some p.2 else cnt r s
def kc (p : Int × Int) : Key × V := (Sum.inl p.1, V.int p.2)
theorem valV_kc (s : Int) : ∀ ps : List (Int × Int), valV (ps.map kc) (Sum.inl s : Key) = (cnt ps s).map V.int
  | [] => rfl
  | p :: r => by
    by_cases e : p.1 = s
    · rw [List.map_cons, valV_pos (show (kc p).1 = Sum.inl s from congrArg Sum.inl e)]
      unfold cnt
      rw [if_pos e]
      rfl
    · rw [List.map_cons, valV_neg (show ¬ (kc p).1 = Sum.inl s from fun z => e (Sum.inl.inj z)), valV_kc s r]
      conv => rhs; unfold cnt
      rw [if_neg e]
theorem cnt_none {s : Int} : ∀ {ps : List (Int × Int)}, cnt ps s = none ↔ s ∉ ps.map Prod.fst
  | [] => by simp [cnt]
  | p :: r => by
    unfold cnt
    by_cases e : p.1 = s
    · simp [e]
    · rw [if_neg e, cnt_none (ps := r)]
      simp [Ne.symm e]
theorem cnt_mem {s c : Int} : ∀ {ps : List (Int × Int)}, (ps.map Prod.fst).Nodup → ((s, c) ∈ ps ↔ cnt ps s = some c)
  | [], _ => by simp [cnt]
  | p :: r, h => by
    obtain ⟨h1, h2⟩ := List.nodup_cons.mp h
    unfold cnt
    by_cases e : p.1 = s
    · rw [if_pos e]
      constructor
      · intro m
        rcases List.mem_cons.mp m with z | z
        · rw [← z]
        · exact absurd (List.mem_map.mpr ⟨_, z, e.symm⟩) h1
      · intro z
        rw [← Option.some.inj z, ← e]
        exact List.mem_cons_self
    · rw [if_neg e, ← cnt_mem (ps := r) h2]
      constructor
      · intro m
        rcases List.mem_cons.mp m with z | z
        · exact absurd (by rw [← z]) e
        · exact z
      · exact fun z => List.mem_cons_of_mem _ z
abbrev Dk (H : Hp) (d : Addr) (ps : List (Int × Int)) : Prop := Rd H d (.dK (ps.map kc))
theorem Dk.get {H : Hp} {d : Addr} {ps : List (Int × Int)} {s : Int} (h : Dk H d ps) : DGet H d (.int s) ((cnt ps s).map V.int) := .inl ⟨_, Sum.inl s, h, rfl, (valV_kc s ps).symm⟩
def Fz (d : Addr) (u : HO) (H H1 : Hp) : Prop := (∀ a o, a ≠ d → H a = some o → H1 a = some o) ∧ ∃ od, H1 d = some (.frz od u)
theorem Fz.to {d : Addr} {u : HO} {H H1 H2 : Hp} (h : Fz d u H H1) (e : Ex H1 H2) : Fz d u H H2 := ⟨fun a o n k => e _ _ (h.1 a o n k), h.2.imp fun _ k => e _ _ k⟩
theorem Fz.of {d : Addr} {u : HO} {H H0 H1 : Hp} (h : Fz d u H0 H1) (e : Ex H H0) : Fz d u H H1 := ⟨fun a o n k => h.1 a o n (e _ _ k), h.2⟩
theorem Fz.back {d : Addr} {u : HO} {H H1 : Hp} (h : Fz d u H H1) (hd : H d = some u) : Ex H (upd H1 d u) := fun a o k => by
  by_cases z : a = d
  · rw [z, hd] at k
    rw [z, upd_same]
    exact k
  · rw [upd_ne z]
    exact h.1 a o z k
theorem Fz.new {d p : Addr} {u : HO} {H H1 : Hp} (h : Fz d u H H1) (hd : H d = some u) (hp : H1 p = none) : H p = none ∧ p ≠ d := by
  obtain ⟨k, od, e⟩ := h
  have n : p ≠ d := fun z => by rw [z, e] at hp; cases hp
  refine ⟨?_, n⟩
  cases q : H p with
  | none => rfl
  | some o =>
    rw [k p o n q] at hp
    cases hp
theorem Fz.dk {d : Addr} {kvs : List (Key × V)} {H H1 : Hp} (h : Fz d (.dK kvs) H H1) : Rd H1 d (.dK kvs) := h.2.elim fun od e => .inr ⟨od, e⟩
theorem fz_of {d : Addr} {u : HO} {od : Obj} {H : Hp} : Fz d u H (upd H d (.frz od u)) := ⟨fun a o n k => by rw [upd_ne n]; exact k, od, upd_same⟩
theorem sqT_back {K : PySem.W.Frag} {d t : Addr} {kvs : List (Key × V)} {u : HO} {od : Obj} {xs : List V} {H : Hp} (hd : H d = some (.frz od (.dK kvs))) (h : SqT K H t xs) : SqT K (upd H d u) t xs := by
  rcases h with (h | ⟨o, h⟩) | h
  · exact .inl (.inl (by rw [upd_ne (fun z => by rw [z, hd] at h; cases h)]; exact h))
  · exact .inl (.inr ⟨o, by rw [upd_ne (fun z => by rw [z, hd] at h; cases h)]; exact h⟩)
  · exact .inr h
section
variable {K : PySem.W.Frag} {σ : L2.St} {H : Hp} {td te ty tx : TE} {tt : TT} {d : Addr} {kvs : List (Key × V)} {j j2 : Nat} {ws : List Nat} {ps : List (Int × Int)} {s c : Int}
theorem ev_dget (h : Ev td σ H (.ref d)) (hs : Ev ty σ H (.int s)) (hd : ∀ H1, Ex H H1 → Dk H1 d ps) (hc : cnt ps s = some c) : Ev (tDGet td ty) σ H (.int c) := fun H1 e Q q =>
  h H1 e _ fun H2 e2 => hs H2 (e.trans e2) _ fun H3 e3 => ⟨d, .int c, rfl, by
    have g := (hd H3 ((e.trans e2).trans e3)).get (s := s)
    rw [hc] at g
    exact g, q H3 (e2.trans e3)⟩
theorem Dk.up {H H' : Hp} (h : Dk H d ps) (e : Ex H H') : Dk H' d ps := ex_rd e h
theorem ev_dget2 (h : Ev td σ H (.ref d)) (hs : Ev ty σ H (.int s)) (hx : Ev tx σ H (.int c)) (hd : Dk H d ps) : Ev (tDGet2 td ty tx) σ H (.int ((cnt ps s).getD c)) := fun H1 e Q q =>
  h H1 e _ fun H2 e2 => ⟨d, rfl, .inl ⟨_, hd.up (e.trans e2)⟩, hs H2 (e.trans e2) _ fun H3 e3 => hx H3 ((e.trans e2).trans e3) _ fun H4 e4 => ⟨_, (hd.up (((e.trans e2).trans e3).trans e4)).get, by
    have z := q H4 ((e2.trans e3).trans e4)
    cases h : cnt ps s with
    | none => rw [h] at z; exact z
    | some y => rw [h] at z; exact z⟩⟩
theorem ev_din (h : Ev td σ H (.ref d)) (hs : Ev ty σ H (.int s)) (hd : Dk H d ps) : Ev (tDIn ty td) σ H (.bl (cnt ps s).isSome) := fun H1 e Q q =>
  hs H1 e _ fun H2 e2 => h H2 (e.trans e2) _ fun H3 e3 => ⟨d, _, rfl, (hd.up ((e.trans e2).trans e3)).get, by
    have z := q H3 (e2.trans e3)
    cases h : cnt ps s with
    | none => rw [h] at z; exact z
    | some y => rw [h] at z; exact z⟩
theorem el_lcK (f : Nat → Bool) (v : Nat → V) (hv : ∀ H1, Ev td σ H1 (.ref d)) (hd : H d = some (.dK kvs)) (hl : kvs.length ≤ 40000) (hw : ∀ x, wipe ((wipe σ ws).set j (some x)) ws = wipe σ ws)
    (ht : ∀ i k x H1, kvs[i]? = some (k, x) → Fz d (.dK kvs) H H1 → EvT tt ((wipe σ ws).set j (some (kV k))) H1 (f i)) (he : ∀ i k x H1, kvs[i]? = some (k, x) → Fz d (.dK kvs) H H1 → f i = true → Ev te ((wipe σ ws).set j (some (kV k))) H1 (v i)) :
    EvL (tLockE (tLc (iKeys td) (gName j) tt te ws)) σ H (given kvs.length f v) := fun H0 e Q q => by
  have hd0 := e _ _ hd
  refine ⟨d, _, hd0, trivial, fun od => hv _ _ (Ex.refl _) _ fun H2 e2 => ?_⟩
  have z : Fz d (.dK kvs) H0 H2 := (fz_of (od := od)).to e2
  have hd2 : H2 d = some (.frz od (.dK kvs)) := e2 _ _ upd_same
  refine ⟨d, od, rfl, .inl ⟨kvs, hd2, fun D hD => ?_⟩⟩
  refine lc_it walk_keys (Cw H2 f v D) ⟨hD, Ex.new hD, upd_same⟩ (fun _ _ _ p => p.2.1 _ _ hd2) ?_ (fun H' p => ?_)
  · rintro i _ H' _ hi p ⟨rfl, k, x, hk, rfl⟩
    exact ⟨hw _, cw_turn p (by omega) (ht i k x H2 hk (z.of e)) (fun hf => he i k x H2 hk (z.of e) hf)⟩
  · obtain ⟨p1, p2, p3⟩ := p
    obtain ⟨n1, n2⟩ := z.new hd0 hD
    exact ⟨p2 _ _ hd2, q D _ n1 ((z.to p2).back hd0) (by rw [upd_ne n2]; exact p3)⟩
theorem el_lcI (f : Nat → Bool) (v : Nat → V) (hv : ∀ H1, Ev td σ H1 (.ref d)) (hd : H d = some (.dK kvs)) (hl : kvs.length ≤ 40000) (hw : ∀ x y, wipe (((wipe σ ws).set j (some x)).set j2 (some y)) ws = wipe σ ws)
    (ht : ∀ i k x H1, kvs[i]? = some (k, x) → Fz d (.dK kvs) H H1 → EvT tt (((wipe σ ws).set j (some (kV k))).set j2 (some x)) H1 (f i)) (he : ∀ i k x H1, kvs[i]? = some (k, x) → Fz d (.dK kvs) H H1 → f i = true → Ev te (((wipe σ ws).set j (some (kV k))).set j2 (some x)) H1 (v i)) :
    EvL (tLockE (tLc (iItems td) (gTup K 2 (gCons (gName j) (gCons (gName j2) gNil))) tt te ws)) σ H (given kvs.length f v) := fun H0 e Q q => by
  have hd0 := e _ _ hd
  refine ⟨d, _, hd0, trivial, fun od => hv _ _ (Ex.refl _) _ fun H2 e2 => ?_⟩
  have z : Fz d (.dK kvs) H0 H2 := (fz_of (od := od)).to e2
  have hd2 : H2 d = some (.frz od (.dK kvs)) := e2 _ _ upd_same
  refine ⟨d, od, kvs, rfl, hd2, fun D hD => ?_⟩
  refine lc_it walk_items (Cw H2 f v D) ⟨hD, Ex.new hD, upd_same⟩ (fun _ _ _ p => p.2.1 _ _ hd2) ?_ (fun H' p => ?_)
  · rintro i _ H' _ hi p ⟨T, x, y, rfl, hT, rfl, hx, hy⟩
    obtain ⟨⟨k, w⟩, hk, rfl⟩ := Option.map_eq_some_iff.mp hx
    have hy : (kvs[i]?.map Prod.snd) = some y := hy
    rw [hk] at hy
    obtain rfl : w = y := Option.some.inj hy
    have p' : Cw H2 f v D i (upd H' T (.tup [kV k, w])) := ⟨p.1, p.2.1.trans (Ex.new hT), by rw [upd_ne (ne_of_none p.2.2 hT)]; exact p.2.2⟩
    exact ⟨T, _, rfl, SqT.of upd_same, rfl, _, _, rfl, _, _, rfl, rfl, ⟨hw _ _, cw_turn p' (by omega) (ht i k w H2 hk (z.of e)) (fun hf => he i k w H2 hk (z.of e) hf)⟩⟩
  · obtain ⟨p1, p2, p3⟩ := p
    obtain ⟨n1, n2⟩ := z.new hd0 hD
    exact ⟨p2 _ _ hd2, q D _ n1 ((z.to p2).back hd0) (by rw [upd_ne n2]; exact p3)⟩
end
end Ck

namespace Ck
open PySem PySem.Spec PyProof.Rows L2 Evl
def RP (K : PySem.W.Frag) (H : Hp) (x : V) (p : Int × Int) : Prop := ∃ t, x = .ref t ∧ SqT K H t [.int p.1, .int p.2]
section
variable {K : PySem.W.Frag} {σ : L2.St} {H H' : Hp} {td te : TE} {d l : Addr} {kvs : List (Key × V)} {j : Nat} {ws : List Nat} {ps : List (Int × Int)} {x : V} {p : Int × Int}
theorem RP.ex (e : Ex H H') (h : RP K H x p) : RP K H' x p := h.imp fun t h => ⟨h.1, ex_t e h.2⟩
theorem RP.upd {xs ys : List V} (hl : H l = some (.lst xs)) (h : RP K H x p) : RP K (L2.upd H l (.lst ys)) x p := h.imp fun t h => ⟨h.1, sqT_updL h.2 hl⟩
theorem RP.back {od : Obj} {u : HO} (hd : H d = some (.frz od (.dK kvs))) (h : RP K H x p) : RP K (L2.upd H d u) x p := h.imp fun t h => ⟨h.1, sqT_back hd h.2⟩
theorem lc_keysP (e : Nat → Int × Int) (hv : ∀ H1, Ev td σ H1 (.ref d)) (hd : H d = some (.dK kvs)) (hl : kvs.length ≤ 40000) (hw : ∀ x, wipe ((wipe σ ws).set j (some x)) ws = wipe σ ws)
    (he : ∀ i k x H1, kvs[i]? = some (k, x) → Fz d (.dK kvs) H H1 → EvR (RP K) te ((wipe σ ws).set j (some (kV k))) H1 (e i)) :
    ∀ H0, Ex H H0 → ∀ Q : VK, (∀ D vs H2, H0 D = none → Ex H0 H2 → H2 D = some (.lst vs) → F2 (RP K H2) vs ((List.range kvs.length).map e) → Q (.ref D) H2) → tLockE (tLc (iKeys td) (gName j) tYes te ws) σ H0 Q := fun H0 e0 Q q => by
  have hd0 := e0 _ _ hd
  refine ⟨d, _, hd0, trivial, fun od => hv _ _ (Ex.refl _) _ fun H2 e2 => ?_⟩
  have z : Fz d (.dK kvs) H0 H2 := (fz_of (od := od)).to e2
  have hd2 : H2 d = some (.frz od (.dK kvs)) := e2 _ _ upd_same
  refine ⟨d, od, rfl, .inl ⟨kvs, hd2, fun D hD => ?_⟩⟩
  refine lc_it walk_keys (fun i H' => H2 D = none ∧ Ex H2 H' ∧ ∃ vs, H' D = some (.lst vs) ∧ vs.length ≤ i ∧ F2 (RP K H') vs ((List.range i).map e)) ⟨hD, Ex.new hD, [], upd_same, Nat.le_refl _, .nil⟩ (fun _ _ _ p => p.2.1 _ _ hd2) ?_ ?_
  · rintro i _ H' H6 hi ⟨p1, p2, vs, p3, p4, p5⟩ ⟨rfl, k, x, hk, rfl⟩
    refine ⟨hw _, yes_go (iteT (he i k x H6 hk ((z.to p2).of e0) _ (Ex.refl _) _ fun v H5 e5 hv5 => ⟨vs, e5 _ _ p3, sz_lt (by omega), p1, Ex.mut (p2.trans e5) p1, vs ++ [v], upd_same, by rw [List.length_append]; exact Nat.succ_le_succ p4, ?_⟩))⟩
    have hD5 := e5 _ _ p3
    rw [List.range_succ, List.map_append]
    exact (p5.imp fun x b r => (r.ex e5).upd hD5).app (.cons (hv5.upd hD5) .nil)
  · rintro H' ⟨p1, p2, vs, p3, _, p5⟩
    obtain ⟨n1, n2⟩ := z.new hd0 hD
    have hd3 := p2 _ _ hd2
    exact ⟨hd3, q D vs _ n1 ((z.to p2).back hd0) (by rw [upd_ne n2]; exact p3) (p5.imp fun x b r => r.back hd3)⟩
theorem evr_pair {ta tb : TE} {a b : Int} (ha : Ev ta σ H (.int a)) (hb : Ev tb σ H (.int b)) : EvR (RP K) (tTup (tCons ta (tCons tb tNil))) σ H (a, b) := fun H1 e Q q =>
  ha H1 e _ fun H2 e2 => hb H2 (e.trans e2) _ fun H3 e3 => ⟨(show 2 ≤ sizeLine by decide), fun t ht => q _ _ ((e2.trans e3).trans (Ex.new ht)) ⟨t, rfl, SqT.of upd_same⟩⟩
end
theorem mergeK_nodup : ∀ {more acc : List (Key × V)}, ((acc ++ more).map Prod.fst).Nodup → mergeK acc more = acc ++ more
  | [], acc, _ => by rw [List.append_nil]; rfl
  | p :: r, acc, h => by
    have n : (acc.any fun kv => decide (kv.1 = p.1)) = false := by
      rw [List.any_eq_false]
      intro kv hkv z
      rw [List.map_append, List.map_cons, List.nodup_append] at h
      exact h.2.2 _ (List.mem_map_of_mem hkv) _ List.mem_cons_self (of_decide_eq_true z)
    have e : putK acc p.1 p.2 = acc ++ [p] := by
      unfold putK
      rw [if_neg (by rw [n]; exact Bool.false_ne_true)]
    show mergeK (putK acc p.1 p.2) r = _
    rw [e, mergeK_nodup (acc := acc ++ [p]) (by rw [List.append_assoc]; exact h), List.append_assoc]
    rfl
theorem merge_kc {ps : List (Int × Int)} (h : (ps.map Prod.fst).Nodup) : mergeK [] (ps.map kc) = ps.map kc := by
  refine mergeK_nodup (acc := []) ?_
  rw [List.nil_append, List.map_map]
  show (ps.map fun p => (Sum.inl p.1 : Key)).Nodup
  have := h
  rw [show (ps.map fun p => (Sum.inl p.1 : Key)) = (ps.map Prod.fst).map Sum.inl by rw [List.map_map]; rfl]
  exact List.Pairwise.map _ (fun a b n z => n (Sum.inl.inj z)) h
def TupZ (H : Hp) (a : Addr) (xs : List V) : Prop := ∃ o, H a = some (.frz o (.tup xs)) ∧ o.cls = .type "tuple" ∧ o.dict = none
theorem TupZ.t {K : PySem.W.Frag} {H : Hp} {a : Addr} {xs : List V} (h : TupZ H a xs) : SqT K H a xs := h.elim fun o h => .inl (.inr ⟨o, h.1⟩)
theorem TupZ.ex {H H' : Hp} {a : Addr} {xs : List V} (h : TupZ H a xs) (e : Ex H H') : TupZ H' a xs := h.imp fun o h => ⟨e _ _ h.1, h.2⟩
section
variable {X : Cx}
def rTupZ (K : PySem.W.Frag) : List V → Hp → VK → Prop := fun xs H Q => ∃ p ys, xs = [.ref p] ∧ SqL K H p ys ∧ ∀ l o, H l = none → o.cls = .type "tuple" → o.dict = none → Q (.ref l) (upd H l (.frz o (.tup ys)))
theorem call_tupleZ : CallR X (.type "tuple") (rTupZ X.K) := by
  rintro pins s σ H _ us Q I r ⟨p, ys, rfl, hq, q⟩
  obtain ⟨u, rfl, rx⟩ := vals1 r
  cases rx
  obtain ⟨its, rv, pl, hz⟩ := I.list hq
  have hlen := rv.length
  refine call_tuple_list pl.isList (fun h' kp => ?_) (by rw [List.size_toArray, ← hlen]; exact hz)
  have I1 : Inv X pins σ H { s with heap := h' } := I.kept (t' := s.toks) kp
  have at_ : (h'.push { cls := .type "tuple", data := .seq its.toArray }).get? h'.objs.size = some { cls := .type "tuple", data := .seq its.toArray } := Heap.get?_push_size _ rfl
  have J := I1.laid (t' := s.toks) (a := h'.objs.size) (o := .frz { cls := .type "tuple", data := .seq its.toArray } (.tup ys)) (fun b o e => Heap.get?_push_of_some _ e) (Nat.le_refl _) ⟨at_, hz, its, rv, IsTup.new _ _⟩
  exact ⟨.ref _, _, J, rfl, q _ _ (I1.hok.fresh (Nat.le_refl _)) rfl rfl⟩
theorem pairs_at {pins : List (Addr × Obj)} {σ : L2.St} {H : Hp} {s : Shared} (I : Inv X pins σ H s) : ∀ {ts : List Addr} {kvs : List (Key × V)}, Paired (fun t kv => SqT X.K H t [kV kv.1, kv.2]) ts kvs →
    ∃ (prs : List (Key × Value)) (ps : List (Value × Value)), KV kvs prs ∧ ps.length = ts.length ∧ prs.length = ts.length ∧ ∀ (j : Nat) (k v : Value), ps[j]? = some (k, v) → ∃ (b : Addr) (c : Key), ts[j]? = some b ∧ IsTup s.heap b #[k, v] ∧ prs[j]? = some (c, v) ∧ (mixKind X.prog X.w).is c k = true
  | _, _, .nil => ⟨[], [], .nil, rfl, rfl, fun j k v e => by simp at e⟩
  | _, _, .cons (a := t) (b := kv) h tl => by
    obtain ⟨prs, ps, r, l1, l2, hp⟩ := pairs_at I tl
    obtain ⟨its, rv, ht, _⟩ := I.tuple h
    obtain ⟨u, y, rfl, ru, ry⟩ := vals2 rv
    refine ⟨(kv.1, y) :: prs, (u, y) :: ps, .cons ⟨rfl, ry⟩ r, congrArg Nat.succ l1, congrArg Nat.succ l2, fun j k v e => ?_⟩
    cases j with
    | zero =>
      obtain ⟨rfl, rfl⟩ := Prod.mk.inj (Option.some.inj e)
      exact ⟨t, kv.1, rfl, ht, rfl, kV_is (P := X.prog) (w := X.w) ru⟩
    | succ j =>
      obtain ⟨b, c, e1, e2, e3, e4⟩ := hp j k v (by simpa using e)
      exact ⟨b, c, by simpa using e1, e2, by simpa using e3, e4⟩
def rDictZ (K : PySem.W.Frag) : List V → Hp → VK → Prop := fun xs H Q => ∃ (a : Addr) (ts : List Addr) (kvs : List (Key × V)), xs = [.ref a] ∧ TupZ H a (ts.map V.ref) ∧ Paired (fun t kv => SqT K H t [kV kv.1, kv.2]) ts kvs ∧ ∀ p, H p = none → Q (.ref p) (upd H p (.dK (mergeK [] kvs)))
theorem call_dictZ (hc : X.calm = true) : CallR X (.type "dict") (rDictZ X.K) := by
  rintro pins s σ H _ us Q I r ⟨a, ts, kvs, rfl, hz, hp, q⟩
  obtain ⟨u, rfl, rx⟩ := vals1 r
  cases rx
  obtain ⟨o, ho, oc, od⟩ := id hz
  obtain ⟨hget, _⟩ := I.hok a _ ho
  obtain ⟨its, rv, ⟨o', hget', _, n, hdat⟩, hsz⟩ := I.tuple (hz.t (K := X.K))
  obtain rfl : o = o' := Option.some.inj (hget.symm.trans hget')
  have ei := refs_at rv
  subst ei
  rw [List.length_map] at hsz
  obtain ⟨prs, ps, rel, l1, l2, hps⟩ := pairs_at I hp
  have P := PairArg.tuple (prog := X.prog) (w := X.w) a (ts.map Value.ref).toArray (fun j => ts.getD j 0) ps
  refine _root_.PySem.call_dict_pairs (knd := mixKind X.prog X.w) (kvs := prs) P (I.ok.hd hc) ⟨⟨o, n, hget, oc, od, hdat⟩, by rw [List.size_toArray, List.length_map, l1], fun j k v e => ?_⟩ ⟨by rw [l1, l2], fun j k v e => ?_⟩ (by rw [l1]; exact hsz) fun h' tk hd' kp => ?_
  · obtain ⟨b, c, e1, e2, _⟩ := hps j k v e
    have eb : ts.getD j 0 = b := by rw [List.getD_eq_getElem?_getD, e1]; rfl
    refine ⟨?_, .inl ?_⟩
    · show _ = some (Value.ref (ts.getD j 0))
      rw [eb]
      simp [e1]
    · show s.heap.IsTuple (ts.getD j 0) _
      rw [eb]
      exact e2
  · obtain ⟨b, c, _, _, e3, e4⟩ := hps j k v e
    exact ⟨c, e3, e4⟩
  · have big : (s.heap.objs.size == sysModules) = false := beq_eq_false_iff_ne.mpr (Nat.ne_of_gt I.big)
    have len : (mergeK [] kvs).length ≤ sizeLine := by
      have z := length_mergeK kvs []
      have z2 := rel.length
      rw [List.length_nil, Nat.zero_add] at z
      omega
    have J := I.laid (t' := tk) (a := s.heap.objs.size) (o := .dK (mergeK [] kvs)) (fun b ob e => kp b ob (fun hm => nomatch hm) e) (Nat.le_refl _) ⟨len, big, merged [] prs, KV.merge rel .nil, hd'⟩
    exact ⟨.ref _, _, J, rfl, q _ (I.hok.fresh (Nat.le_refl _))⟩
end
end Ck

namespace Ck
open PySem PySem.Spec PyProof.Rows L2 StX Evl
def Mkc (P : Program) (w : World) (K : PySem.W.Frag) (mg : Str → Option Value) (base : Heap) (k : Nat) (x : Str) (C : Addr) (sp : Sp) : Prop :=
  ∃ f, Mk K C f ∧ mg x = some (.ref C) ∧ FnR P w K mg base CX0 k f sp
def Pg (P : Program) (w : World) (K : PySem.W.Frag) (mg : Str → Option Value) (base : Heap) (k : Nat) (C : Addr) (x : Str) (sp : Sp) : Prop :=
  Cls K C ∧ ∃ p g fd, PropOf K C x p g ∧ FnOk P w K mg base CX0 k g fd ["self"] sp ∧ Binds K fd ["self"] []
def Og (P : Program) (w : World) (K : PySem.W.Frag) (mg : Str → Option Value) (base : Heap) (k : Nat) (C : Addr) (x : Str) (ps : List Str) (sp : Sp) : Prop :=
  Cls K C ∧ ∃ g fd, PySem.W.findIn K (.ref C) x = some (some (.ref g)) ∧ PySem.W.isFn K (.ref g) = true ∧ PySem.W.fnIn K g = true ∧ PySem.W.keepIn K (.ref g) = true ∧ FnOk P w K mg base CX0 k g fd ps sp ∧ Binds K fd ps []
section
variable {X : Cx} {k j : Nat} {C : Addr} {x : Str} {sp : Sp} {ps : List Str} {e : Expr} {es : List Expr} {te ti : TE} {t : TA} {p pos : Pos}
theorem pmk (c : Mkc X.prog X.w X.K X.mg X.base k x C sp) (hr : Room j X.A) (ha : PA X (e :: es) t) (hk : k + 1 ≤ j := by decide) (hg : Gl X x := by rfl) (hdb : (x == ("__debug__" : Str)) = false := by decide)
    (he : starEach (e :: es) X.env = (false, eval e X.env) :: starEach es X.env := by rfl) (hpl : (backTo pos (starEach es X.env)).any (·.1) = false := by rfl) : PE X (.Call (.Name x p) (e :: es) [] pos) (tMakeR C sp E0 t) := by
  obtain ⟨f, M, hm, F⟩ := c
  exact pe_makeR M F (hr.mono hk) hg hm pass0 ha hdb he hpl
theorem pmk0 (c : Mkc X.prog X.w X.K X.mg X.base k x C sp) (hr : Room j X.A) (hk : k + 1 ≤ j := by decide) (hg : Gl X x := by rfl) (hdb : (x == ("__debug__" : Str)) = false := by decide) : PE X (.Call (.Name x p) [] [] pos) (tMakeR C sp E0 tNil) := by
  obtain ⟨f, M, hm, F⟩ := c
  exact pe_makeR0 M F (hr.mono hk) hg hm pass0 hdb
theorem pprop (c : Pg X.prog X.w X.K X.mg X.base k C x sp) (hr : Room j X.A) (he : PE X e te) (hk : k + 1 ≤ j := by decide) (hab : attributeBase e x X.env (eval e X.env) = eval e X.env := by rfl) : PE X (.Attribute e x pos) (tProp C sp [] E0 te) := by
  obtain ⟨hc, p, g, fd, hp, F, b⟩ := c
  exact pe_prop he hc hp F (hr.mono hk) b .nil pass0 hab
def tGetO (C : Addr) (sp : Sp) (te ti : TE) : TE := fun σ H Q => te σ H fun x H1 => ti σ H1 fun y H2 => ∃ a dx fs, x = .ref a ∧ H2 a = some (.ins C dx fs) ∧ sp [.ref a, y] H2 Q E0
theorem pgetO {i : Expr} (c : Og X.prog X.w X.K X.mg X.base k C "__getitem__" ps sp) (hr : Room j X.A) (he : PE X e te) (hi : PE X i ti) (hk : k + 1 ≤ j := by decide)
    (hsl : ∀ x v, subscripted i true (.ref x) v = runValue (.builtin "lifetime.subscript" ⟨[.ref x, v], []⟩) := by intro _ _; with_unfolding_all rfl) : PE X (.Subscript e i pos) (tGetO C sp te ti) := by
  obtain ⟨hc, g, fd, hs, hfn, hf, kp, F, b⟩ := c
  refine ⟨fun pins s σ H Q I h => Subscript_ (thn (he.run pins s σ H _ I h) ?_)⟩
  rintro u s1 ⟨x, H1, I1, rx, q1⟩
  refine thn (hi.run pins s1 σ H1 _ I1 q1) ?_
  rintro v s2 ⟨y, H2, I2, ry, a, dx, fs, rfl, ha, q⟩
  cases rx
  obtain ⟨mA, J, _⟩ := ins_get I2.hok ha
  obtain ⟨od, J, _⟩ := J.look
  obtain ⟨m, hF⟩ := I2.fr
  refine PySem.W.sub_K hF I2.ok.mod.kin J hs hf hfn ?_ (hsl a v)
  exact run_own (vs := [.ref a, y]) F b (hr.mono hk).in1 rfl I2 (.cons rfl (.cons ry .nil)) q fun v u H' s' I' rv q => ⟨v, H', I', rv, q⟩
theorem oinO (c : Og X.prog X.w X.K X.mg X.base k C "__contains__" ps sp) (hr : Room j X.A) (hk : k ≤ j := by decide) : OpR X (compareOp .In) (fun x y H Q => ∃ a dx fs, y = .ref a ∧ H a = some (.ins C dx fs) ∧ sp [.ref a, x] H (isB Q) E0) := by
  obtain ⟨hc, g, fd, hs, hfn, hf, kp, F, b⟩ := c
  exact op_inO F hs hfn b (hr.mono hk)
theorem oeqO (c : Og X.prog X.w X.K X.mg X.base k C "__eq__" ps sp) (hr : Room j X.A) (hk : k ≤ j := by decide) : OpR X (compareOp .Eq) (fun x y H Q => ∃ a b dx dy fs gs, x = .ref a ∧ y = .ref b ∧ H a = some (.ins C dx fs) ∧ H b = some (.ins C dy gs) ∧ sp [.ref a, .ref b] H (isB Q) E0) := by
  obtain ⟨hc, g, fd, hs, hfn, hf, kp, F, b⟩ := c
  exact op_eqO F hs hfn b (hr.mono hk)
end
def lotF (t1 t2 d : Addr) : List (Str × V) := putF "_counts" (.ref d) (putF "_pairs" (.ref t2) (putF "_sizes" (.ref t1) []))
structure LotAt (K : PySem.W.Frag) (C : Addr) (H : Hp) (a : Addr) (ps : List (Int × Int)) : Prop where
  ex : ∃ dx t1 t2 d ts, H a = some (.ins C dx (lotF t1 t2 d)) ∧ SqT K H t1 ((ps.map Prod.fst).map V.int) ∧ SqT K H t2 ts ∧ F2 (RP K H) ts ps ∧ Dk H d ps
theorem LotAt.up {K : PySem.W.Frag} {C a : Addr} {H H' : Hp} {ps : List (Int × Int)} (h : LotAt K C H a ps) (e : Ex H H') : LotAt K C H' a ps := by
  obtain ⟨dx, t1, t2, d, ts, h1, h2, h3, h4, h5⟩ := h
  exact ⟨dx, t1, t2, d, ts, e _ _ h1, ex_t e h2, ex_t e h3, h4.imp fun x b r => r.ex e, h5.up e⟩
theorem lot_sizes (t1 t2 d : Addr) : (lotF t1 t2 d).lookup ("_sizes" : Str) = some (.ref t1) := by
  unfold lotF
  rw [lookup_putF, if_neg (by decide +kernel), lookup_putF, if_neg (by decide +kernel), lookup_putF, if_pos rfl]
theorem lot_pairs (t1 t2 d : Addr) : (lotF t1 t2 d).lookup ("_pairs" : Str) = some (.ref t2) := by
  unfold lotF
  rw [lookup_putF, if_neg (by decide +kernel), lookup_putF, if_pos rfl]
theorem lot_counts (t1 t2 d : Addr) : (lotF t1 t2 d).lookup ("_counts" : Str) = some (.ref d) := by
  unfold lotF
  rw [lookup_putF, if_pos rfl]
end Ck

namespace Ck
open PySem PySem.Spec PyProof.Rows L2 StX Evl
def Dpr (K : PySem.W.Frag) (C : Addr) (x qual : Str) (st : Stmt) : Prop := ∃ p g fd, PropOf K C x p g ∧ Fun K x qual st g fd ∧ Binds K fd ["self"] []
def Dop (K : PySem.W.Frag) (C : Addr) (x qual : Str) (st : Stmt) (ps : List Str) : Prop :=
  ∃ g fd, PySem.W.findIn K (.ref C) x = some (some (.ref g)) ∧ PySem.W.isFn K (.ref g) = true ∧ PySem.W.fnIn K g = true ∧ PySem.W.keepIn K (.ref g) = true ∧ Fun K x qual st g fd ∧ Binds K fd ps []
def Din (K : PySem.W.Frag) (mg : Str → Option Value) (x : Str) (C : Addr) (qual : Str) (st : Stmt) (ps : List Str) : Prop :=
  ∃ f fd, Mk K C f ∧ mg x = some (.ref C) ∧ FunD K "__init__" qual (defArgs st) (defBody st) (defScope st) [V.non] [] f fd ∧ Binds K fd ps [] ∧ ∃ ds, Vals [V.non] ds ∧ Binds K fd ps ds
section
variable {P : Program} {w : World} {K : PySem.W.Frag} {mg : Str → Option Value} {base : Heap} {k : Nat} {C : Addr} {x qual : Str} {st : Stmt} {N ps : List Str} {sp : Sp}
theorem pg_of (c : Cls K C) (D : Dpr K C x qual st) (S : FnScope N ["self"] (defScope st)) (len : ∀ vs H Q E, sp vs H Q E → vs.length = 1)
    (hbody : ∀ (f : Addr) (cdv : Value) (A : Around) (outer : List Env) (s : Shared) (H : Hp) (vs : List V) (Q : VK) (E : XK), Room k (A.deeper (envOfC qual (defScope st) s.heap.objs.size f cdv)) → sp vs H Q E →
      ∃ t, PSs (cxOf CX0 P w K mg base N qual (defScope st) f cdv A outer s H E).nox (defBody st) t ∧ t { nx := fun _ H' => Q .non H', rt := Q } (start N vs) H) : Pg P w K mg base (k + 1) C x sp := by
  obtain ⟨p, g, fd, hp, F, b⟩ := D
  exact ⟨c, p, g, fd, hp, F.ok S len (hbody g), b⟩
theorem og_of (c : Cls K C) (D : Dop K C x qual st ps) (S : FnScope N ps (defScope st)) (len : ∀ vs H Q E, sp vs H Q E → vs.length = ps.length)
    (hbody : ∀ (f : Addr) (cdv : Value) (A : Around) (outer : List Env) (s : Shared) (H : Hp) (vs : List V) (Q : VK) (E : XK), Room k (A.deeper (envOfC qual (defScope st) s.heap.objs.size f cdv)) → sp vs H Q E →
      ∃ t, PSs (cxOf CX0 P w K mg base N qual (defScope st) f cdv A outer s H E).nox (defBody st) t ∧ t { nx := fun _ H' => Q .non H', rt := Q } (start N vs) H) : Og P w K mg base (k + 1) C x ps sp := by
  obtain ⟨g, fd, h1, h2, h3, h4, F, b⟩ := D
  exact ⟨c, g, fd, h1, h2, h3, h4, F.ok S len (hbody g), b⟩
theorem mkc_of (D : Din K mg x C qual st ps) (S : FnScope N ps (defScope st)) (len : ∀ vs H Q E, sp vs H Q E → vs.length = ps.length)
    (hbody : ∀ (f : Addr) (cdv : Value) (A : Around) (outer : List Env) (s : Shared) (H : Hp) (vs : List V) (Q : VK) (E : XK), Room k (A.deeper (envOfC qual (defScope st) s.heap.objs.size f cdv)) → sp vs H Q E →
      ∃ t, PSs (cxOf CX0 P w K mg base N qual (defScope st) f cdv A outer s H E).nox (defBody st) t ∧ t { nx := fun _ H' => Q .non H', rt := Q } (start N vs) H) :
    Mkc P w K mg base (k + 1) x C sp ∧ Mkc P w K mg base (k + 1) x C fun vs H Q E => sp (vs ++ [.non]) H Q E := by
  obtain ⟨f, fd, M, hm, F, b, ds, hd, b2⟩ := D
  have G : FnOk P w K mg base CX0 (k + 1) f fd ps sp := F.ok S len fun cdv A outer s H vs Q E hr h => by
    obtain ⟨t, h1, h2⟩ := hbody f cdv A outer s H vs Q E hr h
    exact ⟨t, h1.nox, h2⟩
  exact ⟨⟨f, M, hm, (G.raw b .nil).imp fun vs H Q E h => by rw [List.append_nil]; exact h⟩, ⟨f, M, hm, G.raw b2 hd⟩⟩
end
structure LotT (K : PySem.W.Frag) (mg : Str → Option Value) (CL : Addr) : Prop where
  k : Klass K mg "Lot" CL
  n1 : NoAttr K CL "_sizes"
  n2 : NoAttr K CL "_pairs"
  n3 : NoAttr K CL "_counts"
structure Cts (ps : List (Int × Int)) : Prop where
  nd : (ps.map Prod.fst).Nodup
  ln : ps.length ≤ 12
  ok : ∀ p ∈ ps, sizB p.1 = true ∧ sizB p.2 = true
def Asc (ps : List (Int × Int)) : Prop := (ps.map Prod.fst).Pairwise (· < ·)
def spLotI (K : PySem.W.Frag) (C : Addr) : Sp := fun vs H Q _ => ∃ (x dx : Addr) (v : V) (ps : List (Int × Int)) (H0 : Hp), vs = [.ref x, v] ∧ Ex H0 H ∧ H0 x = none ∧ H x = some (.ins C dx []) ∧ Cts ps ∧
  ((v = .non ∧ ps = []) ∨ ∃ d, v = .ref d ∧ H0 d = some (.dK (ps.map kc))) ∧ ∀ qs H', Ex H0 H' → qs.Perm ps → Asc qs → LotAt K C H' x qs → Q .non H'
def spSizes (K : PySem.W.Frag) (C : Addr) : Sp := fun vs H Q _ => ∃ a ps, vs = [.ref a] ∧ LotAt K C H a ps ∧ ∀ t H', Ex H H' → SqT K H' t ((ps.map Prod.fst).map V.int) → Q (.ref t) H'
def tot (ps : List (Int × Int)) : Int := (ps.map fun p => p.1 * p.2).sum
def spTotal (K : PySem.W.Frag) (C : Addr) : Sp := fun vs H Q _ => ∃ a ps, vs = [.ref a] ∧ LotAt K C H a ps ∧ Cts ps ∧ ∀ H', Ex H H' → Q (.int (tot ps)) H'
def spItem (K : PySem.W.Frag) (C : Addr) : Sp := fun vs H Q _ => ∃ a s ps, vs = [.ref a, .int s] ∧ LotAt K C H a ps ∧ sizB s = true ∧ ∀ H', Ex H H' → Q (.int ((cnt ps s).getD 0)) H'
def spIsLot (K : PySem.W.Frag) (C : Addr) : Sp := fun vs H Q _ => ∃ a ps, vs = [.ref a] ∧ LotAt K C H a ps ∧ ∀ H', Ex H H' → Q .non H'
def spAreC (K : PySem.W.Frag) : Sp := fun vs H Q _ => ∃ d ps, vs = [.ref d] ∧ H d = some (.dK (ps.map kc)) ∧ Cts ps ∧ ∀ H', Ex H H' → Q (.bl true) H'
theorem kit_self {K : PySem.W.Frag} {C : Addr} : PySem.W.kitOne K (.ref C) (.ref C) = some true := by
  unfold PySem.W.kitOne
  rw [if_pos (by simp)]
theorem ev_lenD {te : TE} {σ : L2.St} {H : Hp} {d : Addr} {kvs : List (Key × V)} (h : Ev te σ H (.ref d)) (hd : H d = some (.dK kvs)) :
    Ev (tCB (fun xs H Q => ∃ a kvs, xs = [V.ref a] ∧ H a = some (.dK kvs) ∧ Q (.int kvs.length) H) (tCons te tNil)) σ H (.int (kvs.length : Int)) := fun H1 e Q q => h H1 e _ fun H2 e2 => ⟨d, kvs, rfl, e2 _ _ (e _ _ hd), q H2 e2⟩
theorem el_is {te : TE} {σ : L2.St} {H : Hp} {xs ys : List V} (h : EvL te σ H xs) (e : xs = ys) : EvL te σ H ys := e ▸ h
theorem ev_fldL {K : PySem.W.Frag} {te : TE} {σ : L2.St} {H : Hp} {a C dx : Addr} {fs : List (Str × V)} {f : Str} {v : V} (h : Ev te σ H (.ref a)) (ha : H a = some (.ins C dx fs)) (c : Cls K C) (n : NoAttr K C f) (l : fs.lookup f = some v) :
    Ev (tFld K te f) σ H v := fun H1 e Q q => h H1 e _ fun H2 e2 => ⟨a, C, dx, fs, v, rfl, (e.trans e2) _ _ ha, c, n, l, q H2 e2⟩
theorem el_lcP {K : PySem.W.Frag} {tl te : TE} {σ : L2.St} {H : Hp} {a : Addr} {ts : List V} {ps : List (Int × Int)} {j j2 : Nat} {ws : List Nat} (f : Int × Int → V) (h : Ev tl σ H (.ref a)) (ht : SqT K H a ts) (hf : F2 (RP K H) ts ps) (hz : ps.length ≤ 40000)
    (hw : ∀ x y, wipe (((wipe σ ws).set j (some x)).set j2 (some y)) ws = wipe σ ws) (he : ∀ p ∈ ps, ∀ H1, Ex H H1 → Ev te (((wipe σ ws).set j (some (.int p.1))).set j2 (some (.int p.2))) H1 (f p)) :
    EvL (tLc (iTup K tl) (gTup K 2 (gCons (gName j) (gCons (gName j2) gNil))) tYes te ws) σ H (ps.map f) := fun H0 e0 Q q => h H0 e0 _ fun H1 e1 => ⟨a, rfl, ⟨ts, ex_t (e0.trans e1) ht⟩, fun D hD => by
  have e01 := e0.trans e1
  refine lc_it walk_tup (fun i H' => H1 D = none ∧ Ex H1 H' ∧ H' D = some (.lst ((ps.take i).map f))) ⟨hD, Ex.new hD, upd_same⟩ (fun i H' _ p => ex_t (e01.trans p.2.1) ht) ?_ ?_
  · rintro i x H' H2 hi ⟨p1, p2, p3⟩ ⟨rfl, hxi⟩
    obtain ⟨p, hp, t, rfl, hpt⟩ := hf.at hxi
    have m := List.mem_of_getElem? hp
    have st : ps.take (i + 1) = ps.take i ++ [p] := by rw [List.take_add_one, hp]; rfl
    have i12 : i < ps.length := (List.getElem?_eq_some_iff.mp hp).1
    refine ⟨t, _, rfl, ex_t (e01.trans p2) hpt, rfl, _, _, rfl, _, _, rfl, rfl, hw _ _, yes_go (iteT (he p m H2 (e01.trans p2) H2 (Ex.refl _) _ fun H5 e5 => ⟨_, e5 _ _ p3, sz_lt (by rw [List.length_map, List.length_take]; omega), p1, Ex.mut (p2.trans e5) p1, by rw [upd_same, st, List.map_append]; rfl⟩))⟩
  · rintro H' ⟨p1, p2, p3⟩
    rw [hf.len, List.take_of_length_le (Nat.le_refl _)] at p3
    exact q D H' (fresh_back e1 p1) (e1.trans p2) p3⟩
theorem siz_nat {i : Int} (h : sizB i = true) : i.natAbs < 10 ^ 200 := (siz_int h).2
theorem bt_dict : bootBuiltins "dict" = some (.type "dict") := by decide +kernel
end Ck

namespace Ck
open PySem PySem.Spec PyProof.Rows L2 StX Evl
def srt (ps : List (Int × Int)) : List (Int × Int) := ps.mergeSort fun p q => decide (p.1 ≤ q.1)
theorem srt_perm (ps : List (Int × Int)) : (srt ps).Perm ps := List.mergeSort_perm ps _
theorem srt_asc {ps : List (Int × Int)} (h : (ps.map Prod.fst).Nodup) : Asc (srt ps) := by
  have h1 : (srt ps).Pairwise fun p q => decide (p.1 ≤ q.1) = true := List.pairwise_mergeSort (fun a b c x y => by simp only [decide_eq_true_eq] at *; omega) (fun a b => by simp only [Bool.or_eq_true, decide_eq_true_eq]; omega) ps
  have h2 : ((srt ps).map Prod.fst).Nodup := (List.Perm.nodup_iff ((srt_perm ps).map Prod.fst)).mpr h
  unfold Asc
  rw [List.pairwise_map]
  have h3 : (srt ps).Pairwise fun p q => p.1 ≠ q.1 := by
    rw [List.nodup_iff_pairwise_ne, List.pairwise_map] at h2
    exact h2
  exact (h1.and h3).imp fun ⟨a, b⟩ => by simp only [decide_eq_true_eq] at a; omega
theorem asc_nodup {ps : List (Int × Int)} (h : Asc ps) : (ps.map Prod.fst).Nodup := List.Pairwise.imp (fun h => by omega) h
theorem cnt_perm {ps qs : List (Int × Int)} (h : (ps.map Prod.fst).Nodup) (p : qs.Perm ps) (s : Int) : cnt qs s = cnt ps s := by
  have h2 : (qs.map Prod.fst).Nodup := (List.Perm.nodup_iff (p.map Prod.fst)).mpr h
  cases e : cnt ps s with
  | none =>
    rw [cnt_none] at e ⊢
    exact fun m => e ((p.map Prod.fst).mem_iff.mp m)
  | some c =>
    rw [← cnt_mem h] at e
    exact (cnt_mem h2).mp (p.mem_iff.mpr e)
theorem Cts.perm {ps qs : List (Int × Int)} (h : Cts ps) (p : qs.Perm ps) : Cts qs := ⟨(List.Perm.nodup_iff (p.map Prod.fst)).mpr h.nd, by rw [p.length_eq]; exact h.ln, fun x hx => h.ok x (p.mem_iff.mp hx)⟩
section
variable {K : PySem.W.Frag} {σ : L2.St} {H : Hp} {te : TE} {d : Addr} {ps : List (Int × Int)}
abbrev rSortD : List V → Hp → VK → Prop := fun xs H Q => ∃ (a : Addr) (kvs : List (Key × V)) (ks : List Int), xs = [.ref a] ∧ Rd H a (.dK kvs) ∧ kvs.map (·.1) = ks.map Sum.inl ∧ ks.length < 64 ∧
  ∀ (ys : List Int) (p : Addr), ys.Perm ks → ys.Pairwise (· ≤ ·) → H p = none → Q (.ref p) (upd H p (.lst (ys.map V.int)))
theorem el_sortD (h : Ev te σ H (.ref d)) (hd : Dk H d ps) (hn : (ps.map Prod.fst).Nodup) (hl : ps.length < 64) : EvL (tCB rSortD (tCons te tNil)) σ H (((srt ps).map Prod.fst).map V.int) := fun H0 e0 Q q =>
  h H0 e0 _ fun H1 e1 => ⟨d, _, ps.map Prod.fst, rfl, hd.up (e0.trans e1), by rw [List.map_map, List.map_map]; rfl, by rw [List.length_map]; exact hl, fun ys p hp hs hn2 => by
    have nd : ys.Nodup := (List.Perm.nodup_iff hp).mpr hn
    have lt : ys.Pairwise (· < ·) := (hs.and (List.nodup_iff_pairwise_ne.mp nd)).imp fun ⟨a, b⟩ => by omega
    have e : ys = (srt ps).map Prod.fst := sorted_one lt (srt_asc hn) fun k => hp.mem_iff.trans ((srt_perm ps).map Prod.fst).mem_iff.symm
    rw [e]
    exact q p _ (fresh_back e1 hn2) (e1.trans (Ex.new hn2)) upd_same⟩
theorem f2_refs {H : Hp} : ∀ {vs : List V} {qs : List (Int × Int)}, F2 (RP K H) vs qs → ∃ ts : List Addr, vs = ts.map V.ref ∧ Paired (fun t (kv : Key × V) => SqT K H t [kV kv.1, kv.2]) ts (qs.map kc)
  | _, _, .nil => ⟨[], rfl, .nil⟩
  | _, _, .cons ⟨t, e, h⟩ tl => by
    obtain ⟨ts, rfl, r⟩ := f2_refs tl
    exact ⟨t :: ts, by rw [e]; rfl, .cons h r⟩
theorem pairs_srt (hn : (ps.map Prod.fst).Nodup) : ((srt ps).map Prod.fst).map (fun n => (n, (cnt ps n).getD 0)) = srt ps := by
  rw [List.map_map]
  have key : ∀ p ∈ srt ps, ((fun n => (n, (cnt ps n).getD 0)) ∘ Prod.fst) p = p := fun p hp => by
    have m := (srt_perm ps).mem_iff.mp hp
    have e := (cnt_mem hn).mp (show (p.1, p.2) ∈ ps from m)
    show (p.1, (cnt ps p.1).getD 0) = p
    rw [e]
    rfl
  rw [List.map_congr_left key, List.map_id']
end
end Ck
namespace Ck
open PySem PySem.Spec PyProof.Rows L2 StX Evl
section
variable {K : PySem.W.Frag} {σ : L2.St} {H : Hp} {D : Ends} {z : TS} {v : V} {ps : List (Int × Int)}
theorem asg_told (h1 : σ[1]? = some (some v)) (hv : (v = .non ∧ ps = []) ∨ ∃ d, v = .ref d ∧ H d = some (.dK (ps.map kc))) (k : ∀ d H1, Ex H H1 → H1 d = some (.dK (ps.map kc)) → z D (σ.set 2 (some (.ref d))) H1) :
    tSeq (tAsg (tIf (tTest (tOp (fun x y H Q => y = .non ∧ Q (.bl (decide (x = .non))) H) (tVar 1) (tC .non))) tDNewK (tVar 1)) (gName 2)) z D σ H := by
  refine ⟨v, h1, rfl, _, rfl, ?_⟩
  rcases hv with ⟨rfl, rfl⟩ | ⟨d, rfl, hd⟩
  · exact iteT fun p hp => k p _ (Ex.new hp) upd_same
  · exact iteF ⟨_, h1, k d H (Ex.refl H) hd⟩
theorem sq_fld {ta tv : TE} {f : Str} (h : tv σ H fun y H1 => ta σ H1 fun x H2 => ∃ a C dx fs, x = .ref a ∧ H2 a = some (.ins C dx fs) ∧ Cls K C ∧ NoAttr K C f ∧ fs.length < 1000 ∧ z D σ (upd H2 a (.ins C dx (putF f y fs)))) : tSeq (sFld K ta tv f) z D σ H := h
theorem one_fld {ta tv : TE} {f : Str} (h : tv σ H fun y H1 => ta σ H1 fun x H2 => ∃ a C dx fs, x = .ref a ∧ H2 a = some (.ins C dx fs) ∧ Cls K C ∧ NoAttr K C f ∧ fs.length < 1000 ∧ D.nx σ (upd H2 a (.ins C dx (putF f y fs)))) : sFld K ta tv f D σ H := h
theorem arec_v {d : Addr} (hd : H d = some (.dK (ps.map kc))) (hc : Cts ps) : SpV (spAreC K) [.ref d] H (.bl true) := fun H1 e Q q E => ⟨d, ps, rfl, e _ _ hd, hc, q⟩
end
theorem up_x {H : Hp} {x b : Addr} {o u : HO} (h : H b = some o) (n : b ≠ x) : upd H x u b = some o := by rw [upd_ne n]; exact h
theorem sqT_x {K : PySem.W.Frag} {H : Hp} {x t C dx : Addr} {fs : List (Str × V)} {u : HO} {xs : List V} (h : SqT K H t xs) (hx : H x = some (.ins C dx fs)) : SqT K (upd H x u) t xs := by
  rcases h with (h | ⟨o, h⟩) | h
  · exact .inl (.inl (up_x h fun e => by rw [e, hx] at h; cases h))
  · exact .inl (.inr ⟨o, up_x h fun e => by rw [e, hx] at h; cases h⟩)
  · exact .inr h
end Ck
namespace Ck
open PySem PySem.Spec PyProof.Rows L2 StX Evl
section
variable {K : PySem.W.Frag} {σ : L2.St} {H : Hp} {tl te : TE} {α : Type} {R : Hp → V → α → Prop} {bs : List α} {a : Addr} {qs : List (Int × Int)}
theorem tz_of (L : ∀ H H' x b, Ex H H' → R H x b → R H' x b) (h : ∀ H1, Ex H H1 → ∀ Q : VK, (∀ D vs H2, H1 D = none → Ex H1 H2 → H2 D = some (.lst vs) → F2 (R H2) vs bs → Q (.ref D) H2) → tl σ H1 Q) :
    ∀ H1, Ex H H1 → ∀ Q : VK, (∀ l vs H2, H1 l = none → Ex H1 H2 → TupZ H2 l vs → F2 (R H2) vs bs → Q (.ref l) H2) → tCB (rTupZ K) (tCons tl tNil) σ H1 Q := fun H1 e1 Q q =>
  h H1 e1 _ fun D vs H2 nD e2 hD hf => ⟨D, vs, rfl, SqL.of hD, fun l o hl oc od => q l vs _ (fresh_back e2 hl) (e2.trans (Ex.new hl)) ⟨o, upd_same, oc, od⟩ (hf.imp fun x b r => L _ _ _ _ (Ex.new hl) r)⟩
theorem dz_of {vs : List V} (h : Ev te σ H (.ref a)) (hz : TupZ H a vs) (hf : F2 (RP K H) vs qs) (hn : (qs.map Prod.fst).Nodup) :
    ∀ H1, Ex H H1 → ∀ Q : VK, (∀ p H2, H1 p = none → Ex H1 H2 → H2 p = some (.dK (qs.map kc)) → Q (.ref p) H2) → tCB (rDictZ K) (tCons te tNil) σ H1 Q := fun H1 e1 Q q =>
  h H1 e1 _ fun H2 e2 => by
    obtain ⟨ts, rfl, hp⟩ := f2_refs (K := K) (hf.imp fun x b r => r.ex (e1.trans e2))
    exact ⟨a, ts, qs.map kc, rfl, hz.ex (e1.trans e2), hp, fun p hp2 => by
      rw [merge_kc hn]
      exact q p _ (fresh_back e2 hp2) (e2.trans (Ex.new hp2)) upd_same⟩
theorem TupZ.x {H : Hp} {x t C dx : Addr} {fs : List (Str × V)} {u : HO} {xs : List V} (h : TupZ H t xs) (hx : H x = some (.ins C dx fs)) : TupZ (L2.upd H x u) t xs := h.imp fun o h => ⟨up_x h.1 (fun e => by rw [e, hx] at h; exact (nomatch h.1)), h.2⟩
theorem RP.x {H : Hp} {x C dx : Addr} {fs : List (Str × V)} {u : HO} {v : V} {p : Int × Int} (hx : H x = some (.ins C dx fs)) (h : RP K H v p) : RP K (L2.upd H x u) v p := h.imp fun t h => ⟨h.1, sqT_x h.2 hx⟩
end
end Ck

namespace Ck
open PySem PySem.Spec PyProof.Rows L2 StX Evl RZ
section
variable {K : PySem.W.Frag} {w : World} {σ : L2.St} {H : Hp} {p : Addr} {te : TE} {ns us : List Int}
theorem el_tss (h : Etu K te σ H (ns.map V.int)) (hl : ns.length < 60) (h1 : us.Pairwise (· < ·)) (h2 : ∀ k, k ∈ us ↔ k ∈ ns) :
    EvL (tCB (rSortedSet w) (tCons (tCB (rSetT K w) (tCons te tNil)) tNil)) σ H (us.map V.int) := fun H0 e0 Q q => h H0 e0 _ fun p H1 e1 hp => ⟨p, ns, rfl, hp, hl, fun b c hb hc =>
  ⟨b, _, c, rfl, upd_same, Nat.lt_of_le_of_lt hc (Nat.lt_trans hl (by decide)), fun vs p2 hpw hmem hlen hp2 => by
    have e : vs = us := sorted_one hpw h1 fun k => ⟨fun hk => (h2 k).mpr (of_decide_eq_true ((hmem k).mp hk)), fun hk => (hmem k).mpr (decide_eq_true ((h2 k).mp hk))⟩
    subst e
    have e2 := (Ex.new (o := SetO w b (fun j => decide (j ∈ ns)) c) hb).trans (Ex.new (o := .lst (vs.map V.int)) hp2)
    exact q p2 _ (fresh_back e1 (fresh_back (Ex.new (o := SetO w b (fun j => decide (j ∈ ns)) c) hb) hp2)) (e1.trans e2) upd_same⟩⟩
end
def sml (ps : List (Int × Int)) (s : Int) : Int := tot (ps.filter fun p => decide (p.1 < s))
end Ck
namespace Ck
open PySem PySem.Spec PyProof.Rows L2 StX Evl RZ
section
variable {K : PySem.W.Frag} {σ : L2.St} {H : Hp} {C a : Addr} {te ti tl ta tb : TE} {tt : TT} {ps : List (Int × Int)} {ns : List Int} {s n : Int} {j : Nat} {ws : List Nat}
theorem etu_sizes (h : Ev te σ H (.ref a)) (hl : LotAt K C H a ps) : Etu K (tProp C (spSizes K C) [] E0 te) σ H ((ps.map Prod.fst).map V.int) := fun H1 e Q q => h H1 e _ fun H2 e2 => by
  obtain ⟨dx, t1, t2, d, ts, h1, _⟩ := (hl.up (e.trans e2)).ex
  exact ⟨a, dx, _, rfl, h1, a, ps, rfl, hl.up (e.trans e2), fun t H' e3 ht => q t H' (e2.trans e3) ht⟩
theorem ev_total (h : Ev te σ H (.ref a)) (hl : LotAt K C H a ps) (hc : Cts ps) : Ev (tProp C (spTotal K C) [] E0 te) σ H (.int (tot ps)) := fun H1 e Q q => h H1 e _ fun H2 e2 => by
  obtain ⟨dx, t1, t2, d, ts, h1, _⟩ := (hl.up (e.trans e2)).ex
  exact ⟨a, dx, _, rfl, h1, a, ps, rfl, hl.up (e.trans e2), hc, fun H' e3 => q H' (e2.trans e3)⟩
theorem ev_item (h : Ev te σ H (.ref a)) (hi : Ev ti σ H (.int s)) (hl : LotAt K C H a ps) (hs : sizB s = true) : Ev (tGetO C (spItem K C) te ti) σ H (.int ((cnt ps s).getD 0)) := fun H1 e Q q => h H1 e _ fun H2 e2 => hi H2 (e.trans e2) _ fun H3 e3 => by
  obtain ⟨dx, t1, t2, d, ts, h1, _⟩ := (hl.up ((e.trans e2).trans e3)).ex
  exact ⟨a, dx, _, rfl, h1, a, s, ps, rfl, hl.up ((e.trans e2).trans e3), hs, fun H' e4 => q H' ((e2.trans e3).trans e4)⟩
theorem el_lcN (c : Int → Bool) (f : Int → V) (h : Etu K tl σ H (ns.map V.int)) (hz : ns.length ≤ 40000) (hw : ∀ x, wipe ((wipe σ ws).set j (some x)) ws = wipe σ ws)
    (ht : ∀ n ∈ ns, ∀ H1, Ex H H1 → EvT tt ((wipe σ ws).set j (some (.int n))) H1 (c n)) (he : ∀ n ∈ ns, c n = true → ∀ H1, Ex H H1 → Ev te ((wipe σ ws).set j (some (.int n))) H1 (f n)) :
    EvL (tLc (iTup K tl) (gName j) tt te ws) σ H ((ns.filter c).map f) := fun H0 e0 Q q => h H0 e0 _ fun a H1 e1 hx => ⟨a, rfl, ⟨_, hx⟩, fun D hD => by
  refine lc_it walk_tup (fun i H' => H1 D = none ∧ Ex H1 H' ∧ ∃ vs, H' D = some (.lst vs) ∧ vs.length ≤ i ∧ vs = ((ns.take i).filter c).map f) ⟨hD, Ex.new hD, [], upd_same, Nat.le_refl _, rfl⟩ (fun i H' _ p => ex_t p.2.1 hx) ?_ ?_
  · rintro i x H2 H3 hi ⟨p1, p2, vs, p3, p4, p5⟩ ⟨e3, hxi⟩
    rw [e3]
    rw [List.length_map] at hi
    rw [List.getElem?_map, List.getElem?_eq_getElem hi] at hxi
    obtain rfl := Option.some.inj hxi
    have m := List.getElem_mem hi
    have e02 := (e0.trans e1).trans p2
    refine ⟨hw _, ht _ m H2 e02 H2 (Ex.refl H2) _ fun H4 e4 => ?_⟩
    have st : ns.take (i + 1) = ns.take i ++ [ns[i]] := by rw [List.take_add_one, List.getElem?_eq_getElem hi]; rfl
    cases hc : c ns[i] with
    | true =>
      refine iteT (he _ m hc H4 (e02.trans e4) H4 (Ex.refl H4) _ fun H5 e5 => ⟨vs, (e4.trans e5) _ _ p3, sz_lt (by omega), p1, Ex.mut (p2.trans (e4.trans e5)) p1, vs ++ [f ns[i]], upd_same, by rw [List.length_append]; exact Nat.succ_le_succ p4, ?_⟩)
      rw [st, List.filter_append, List.map_append, show [ns[i]].filter c = [ns[i]] by rw [List.filter_cons, hc]; rfl, p5]
      rfl
    | false =>
      refine iteF ⟨p1, p2.trans e4, vs, e4 _ _ p3, Nat.le_succ_of_le p4, ?_⟩
      rw [st, List.filter_append, show [ns[i]].filter c = [] by rw [List.filter_cons, hc]; rfl, List.append_nil]
      exact p5
  · rintro H2 ⟨p1, p2, vs, p3, _, p5⟩
    rw [List.length_map, List.take_of_length_le (Nat.le_refl _)] at p5
    rw [p5] at p3
    exact q D H2 (fresh_back e1 p1) (e1.trans p2) p3⟩
theorem chklot_v (hl : LotAt K C H a ps) : SpV (spIsLot K C) [.ref a] H .non := fun H1 e Q q E => ⟨a, ps, rfl, hl.up e, q⟩
end
theorem cts_pos {ps : List (Int × Int)} (h : Cts ps) : ∀ n ∈ ps.map Prod.fst, 0 < n ∧ n.natAbs < 10 ^ 200 ∧ sizB n = true := fun n hn => by
  obtain ⟨p, hp, rfl⟩ := List.mem_map.mp hn
  obtain ⟨s1, _⟩ := h.ok p hp
  exact ⟨(siz_int s1).1, (siz_int s1).2, s1⟩
end Ck
namespace Ck
open PySem PySem.Spec PyProof.Rows L2 Evl
theorem lay_ints : ∀ ns : List Int, PyData.canLayAll0 (ns.map PyData.int) = true ∧ PyData.depthAll (ns.map PyData.int) = 0
  | [] => ⟨rfl, rfl⟩
  | x :: r => by
    obtain ⟨a, b⟩ := lay_ints r
    exact ⟨by rw [List.map_cons]; simp only [PyData.canLayAll0, a]; rfl, by rw [List.map_cons]; simp only [PyData.depthAll, b]; rfl⟩
theorem shaped_tints (ns : List Int) : SeqAt.shaped (.tuple (ns.map PyData.int)) = true := by
  obtain ⟨a, b⟩ := lay_ints ns
  unfold SeqAt.shaped
  simp only [PyData.canLay0, PyData.depth, a, b]
  rfl
theorem eqv_tnil (ns : List Int) : PyData.eqv (.tuple (ns.map PyData.int)) (.tuple []) = decide (ns = []) := by
  cases ns with
  | nil => rfl
  | cons a r => rfl
end Ck

namespace Ck
open PySem PySem.Spec PyProof.Rows L2 Evl
def ext1 (p : Int × Int) (q : List (Int × Int)) : List (List (Int × Int)) := q :: ((List.range p.2.toNat).map fun k => q ++ [(p.1, ((k + 1 : Nat) : Int))])
def partsOf (qs : List (Int × Int)) : List (List (Int × Int)) := qs.foldl (fun acc p => acc.flatMap (ext1 p)) [[]]
theorem parts_snoc (qs : List (Int × Int)) (p : Int × Int) : partsOf (qs ++ [p]) = (partsOf qs).flatMap (ext1 p) := by
  unfold partsOf
  rw [List.foldl_append]
  rfl
end Ck

namespace Ck
open PySem PySem.Spec PyProof.Rows L2 Evl
structure Chd (ns : List Int) (L : Int) : Prop where
  last : ∃ r, ns = r ++ [L]
  pw : ns.Pairwise fun a b => a < b ∧ a ∣ b
  pos : ∀ n ∈ ns, 0 < n ∧ n ≤ L ∧ n ∣ L
theorem Chd.one {L : Int} (h : 0 < L) : Chd [L] L := ⟨⟨[], rfl⟩, List.pairwise_singleton _ _, fun n hn => by cases List.mem_singleton.mp hn; exact ⟨h, Int.le_refl _, Int.dvd_refl _⟩⟩
theorem Chd.posL {ns : List Int} {L : Int} (h : Chd ns L) : 0 < L := by
  obtain ⟨r, e⟩ := h.last
  exact (h.pos L (by rw [e]; exact List.mem_append_right _ (List.mem_singleton.mpr rfl))).1
theorem Chd.at {ns : List Int} {L : Int} (h : Chd ns L) : atI (ns.map V.int) (-1) = some (.int L) := by
  obtain ⟨r, rfl⟩ := h.last
  rw [List.map_append]
  exact atI_last _ _
theorem Chd.snoc {ns : List Int} {L s : Int} (h : Chd ns L) (hs : 2 ≤ s) : Chd (ns ++ [L * s]) (L * s) := by
  have l0 := h.posL
  have lt : L < L * s := by
    have : L * 2 ≤ L * s := Int.mul_le_mul_of_nonneg_left hs (by omega)
    omega
  have dv : L ∣ L * s := Int.dvd_mul_right L s
  refine ⟨⟨ns, rfl⟩, List.pairwise_append.mpr ⟨h.pw, List.pairwise_singleton _ _, fun a ha b hb => ?_⟩, fun n hn => ?_⟩
  · cases List.mem_singleton.mp hb
    obtain ⟨_, h2, h3⟩ := h.pos a ha
    exact ⟨by omega, Int.dvd_trans h3 dv⟩
  · rcases List.mem_append.mp hn with m | m
    · obtain ⟨h1, h2, h3⟩ := h.pos n m
      exact ⟨h1, by omega, Int.dvd_trans h3 dv⟩
    · cases List.mem_singleton.mp m
      exact ⟨by omega, Int.le_refl _, Int.dvd_refl _⟩
theorem cons_eraseIdx {α : Type} : ∀ (xs : List α) (k : Nat) (h : k < xs.length), (xs[k] :: xs.eraseIdx k).Perm xs
  | x :: r, 0, _ => List.Perm.refl _
  | x :: r, k + 1, h => (List.Perm.swap x _ _).trans (List.Perm.cons x (cons_eraseIdx r k (Nat.lt_of_succ_lt_succ h)))
def spMade (K : PySem.W.Frag) (C : Addr) : Sp := fun vs H Q _ => ∃ d ps, vs = [.ref d] ∧ H d = some (.dK (ps.map kc)) ∧ Cts ps ∧ ∀ a qs H', Ex H H' → qs.Perm ps → Asc qs → LotAt K C H' a qs → Q (.ref a) H'
def spTot : Sp := fun vs H Q _ => ∃ d ps, vs = [.ref d] ∧ H d = some (.dK (ps.map kc)) ∧ Cts ps ∧ ∀ H', Ex H H' → Q (.int (tot ps)) H'
def RD (H : Hp) (x : V) (ps : List (Int × Int)) : Prop := ∃ d, x = .ref d ∧ H d = some (.dK (ps.map kc))
end Ck
namespace Ck
open PySem PySem.Spec PyProof.Rows L2 Evl
theorem putK_new {ps : List (Int × Int)} {s c : Int} (h : s ∉ ps.map Prod.fst) : putK (ps.map kc) (Sum.inl s : Key) (.int c) = (ps ++ [(s, c)]).map kc := by
  unfold putK
  rw [valV_any, valV_kc, cnt_none.mpr h]
  show (if false = true then _ else _) = _
  rw [if_neg Bool.false_ne_true, List.map_append]
  rfl
theorem sum_snoc (ps : List (Int × Int)) (s c : Int) : ((ps ++ [(s, c)]).map Prod.snd).sum = (ps.map Prod.snd).sum + c := by
  rw [List.map_append, List.sum_append]
  simp
end Ck
namespace Ck
open PySem PySem.Spec PyProof.Rows L2 StX Evl
theorem range_getD (ps : List (Int × Int)) : (List.range ps.length).map (fun i => ps.getD i (0, 0)) = ps := by
  refine List.ext_getElem (by rw [List.length_map, List.length_range]) fun i h1 h2 => ?_
  rw [List.getElem_map, List.getElem_range, List.getD_eq_getElem?_getD, List.getElem?_eq_getElem h2]
  rfl
theorem kc_at {ps : List (Int × Int)} {i : Nat} {k : Key} {x : V} (h : (ps.map kc)[i]? = some (k, x)) : ∃ p ∈ ps, ps.getD i (0, 0) = p ∧ k = Sum.inl p.1 ∧ x = V.int p.2 := by
  rw [List.getElem?_map] at h
  obtain ⟨p, hp, e⟩ := Option.map_eq_some_iff.mp h
  obtain ⟨rfl, rfl⟩ := Prod.mk.inj e
  exact ⟨p, List.mem_of_getElem? hp, by rw [List.getD_eq_getElem?_getD, hp]; rfl, rfl, rfl⟩
section
variable {K : PySem.W.Frag} {σ : L2.St} {H : Hp} {tl te : TE} {tt : TT} {ta : TA} {C d : Addr} {ps qs : List (Int × Int)} {j : Nat} {ws : List Nat}
abbrev rDictP (K : PySem.W.Frag) : List V → Hp → VK → Prop := fun xs H Q => ∃ (a : Addr) (ps : List Addr) (kvs : List (Key × V)), xs = [.ref a] ∧ SqL K H a (ps.map V.ref) ∧ Paired (fun p kv => SqT K H p [kV kv.1, kv.2]) ps kvs ∧
  ∀ p, H p = none → Q (.ref p) (upd H p (.dK (mergeK [] kvs)))
theorem dl_of (h : ∀ H1, Ex H H1 → ∀ Q : VK, (∀ D vs H2, H1 D = none → Ex H1 H2 → H2 D = some (.lst vs) → F2 (RP K H2) vs qs → Q (.ref D) H2) → tl σ H1 Q) (hn : (qs.map Prod.fst).Nodup) :
    ∀ H1, Ex H H1 → ∀ Q : VK, (∀ p H2, H1 p = none → Ex H1 H2 → H2 p = some (.dK (qs.map kc)) → Q (.ref p) H2) → tCB (rDictP K) (tCons tl tNil) σ H1 Q := fun H1 e1 Q q =>
  h H1 e1 _ fun D vs H2 nD e2 hD hf => by
    obtain ⟨ts, rfl, hp⟩ := f2_refs hf
    exact ⟨D, ts, qs.map kc, rfl, SqL.of hD, hp, fun p hp2 => by
      rw [merge_kc hn]
      exact q p _ (fresh_back e2 hp2) (e2.trans (Ex.new hp2)) upd_same⟩
theorem lc_self (hv : ∀ H1, Ev te σ H1 (.ref d)) (hv2 : ∀ x H1, Ev te ((wipe σ ws).set j x) H1 (.ref d)) (hj : ∀ x : V, ((wipe σ ws).set j (some x))[j]? = some (some x)) (hd : H d = some (.dK (ps.map kc))) (hn : (ps.map Prod.fst).Nodup) (hl : ps.length ≤ 40000) (hw : ∀ x, wipe ((wipe σ ws).set j (some x)) ws = wipe σ ws) :
    ∀ H1, Ex H H1 → ∀ Q : VK, (∀ D vs H2, H1 D = none → Ex H1 H2 → H2 D = some (.lst vs) → F2 (RP K H2) vs ps → Q (.ref D) H2) → tLockE (tLc (iKeys te) (gName j) tYes (tTup (tCons (tVar j) (tCons (tDGet te (tVar j)) tNil))) ws) σ H1 Q := by
  have z := lc_keysP (K := K) (H := H) (td := te) (te := tTup (tCons (tVar j) (tCons (tDGet te (tVar j)) tNil))) (fun i => ps.getD i (0, 0)) hv hd (by rw [List.length_map]; exact hl) hw (fun i k x H1 hk hf => by
    obtain ⟨p, hp, e, rfl, rfl⟩ := kc_at hk
    rw [e]
    exact evr_pair (ev_var (hj _)) (ev_dget (hv2 _ H1) (ev_var (hj _)) (fun H2 e2 => (hf.to e2).dk) ((cnt_mem hn).mp hp)))
  rw [List.length_map, range_getD] at z
  exact z
theorem lot_make (h : ∀ Q : VK, (∀ p H1, Ex H H1 → H1 p = some (.dK (ps.map kc)) → Q (.ref p) H1) → te σ H Q) (hc : Cts ps) (Q : VK) (q : ∀ a qs H', Ex H H' → qs.Perm ps → Asc qs → LotAt K C H' a qs → Q (.ref a) H') :
    tMakeR C (spLotI K C) E0 (tCons te tNil) σ H Q := h _ fun p H1 e1 h1 x dx nx ndx ne => by
  have e2 : Ex H1 (upd (upd H1 dx (.own x)) x (.ins C dx [])) := Ex.mut (Ex.new ndx) nx
  exact ⟨x, dx, .ref p, ps, H1, rfl, e2, nx, upd_same, hc, .inr ⟨p, rfl, h1⟩, fun qs H' e3 hp ha hl => ⟨rfl, q x qs H' (e1.trans e3) hp ha hl⟩⟩
theorem cts_nil : Cts [] := ⟨List.nodup_nil, Nat.zero_le _, fun p hp => (nomatch hp)⟩
theorem lot_make0 (Q : VK) (q : ∀ a H', Ex H H' → LotAt K C H' a [] → Q (.ref a) H') : tMakeR C (fun vs H Q E => spLotI K C (vs ++ [.non]) H Q E) E0 tNil σ H Q := fun x dx nx ndx ne => by
  have e2 : Ex H (upd (upd H dx (.own x)) x (.ins C dx [])) := Ex.mut (Ex.new ndx) nx
  exact ⟨x, dx, .non, [], H, rfl, e2, nx, upd_same, cts_nil, .inl ⟨rfl, rfl⟩, fun qs H' e3 hp ha hl => ⟨rfl, q x H' e3 (by rw [← List.perm_nil.mp hp]; exact hl)⟩⟩
end
theorem given_if (ps : List (Int × Int)) (c : Int × Int → Bool) (g : Int × Int → Int) : given ps.length (fun i => c (ps.getD i (0, 0))) (fun i => V.int (g (ps.getD i (0, 0)))) = ((ps.filter c).map g).map V.int := by
  unfold given
  conv => rhs; rw [← range_getD ps, List.filter_map, List.map_map, List.map_map]
  rfl
end Ck

namespace Ck
open PySem PySem.Spec PyProof.Rows L2 StX Evl
section
variable {K : PySem.W.Frag} {σ : L2.St} {H : Hp} {ta tb te : TE} {d : Addr} {qs rs : List (Int × Int)} {a b : Int}
theorem f2_of_paired {H' : Hp} : ∀ {ts : List Addr} {qs : List (Int × Int)}, Paired (fun (t : Addr) (q : Key × V) => H' t = some (.tup [kV q.1, q.2])) ts (qs.map kc) → F2 (RP K H') (ts.map V.ref) qs
  | [], [], _ => .nil
  | t :: ts, q :: qs, .cons h r => .cons ⟨t, rfl, SqT.of h⟩ (f2_of_paired r)
end
end Ck
namespace Ck
open PySem PySem.Spec PyProof.Rows L2 StX Evl
theorem parts_keys : ∀ (n : Nat) (ws : List (Int × Int)), ws.length = n → ∀ q ∈ partsOf ws, (q.map Prod.fst).Sublist (ws.map Prod.fst)
  | 0, ws, hn, q, hq => by
    rw [List.eq_nil_of_length_eq_zero hn] at hq ⊢
    cases List.mem_singleton.mp hq
    exact List.Sublist.refl _
  | n + 1, ws, hn, q, hq => by
    have hne : ws ≠ [] := fun e => by rw [e] at hn; cases hn
    have e : ws = ws.dropLast ++ [ws.getLast hne] := (List.dropLast_concat_getLast hne).symm
    have ih := parts_keys n ws.dropLast (by rw [List.length_dropLast, hn]; rfl)
    generalize ws.getLast hne = p at e
    generalize ws.dropLast = us at e ih
    subst e
    rw [parts_snoc] at hq
    obtain ⟨r, hr, hm⟩ := List.mem_flatMap.mp hq
    rw [List.map_append]
    rcases List.mem_cons.mp hm with rfl | hm
    · exact (ih q hr).trans (List.sublist_append_left _ _)
    · obtain ⟨k, _, rfl⟩ := List.mem_map.mp hm
      rw [List.map_append]
      exact List.Sublist.append (ih r hr) (List.Sublist.refl _)
theorem sum_of_perm {a b : List Int} (h : a.Perm b) : a.sum = b.sum := by
  induction h with
  | nil => rfl
  | cons x _ ih => rw [List.sum_cons, List.sum_cons, ih]
  | swap x y l => rw [List.sum_cons, List.sum_cons, List.sum_cons, List.sum_cons]; omega
  | trans _ _ a b => rw [a, b]
end Ck

namespace Ck
open PySem PySem.Spec PyProof.Rows L2 StX Evl RZ
theorem self_cnt {ps : List (Int × Int)} (h : (ps.map Prod.fst).Nodup) : (ps.map Prod.fst).map (fun n => (n, (cnt ps n).getD 0)) = ps := by
  rw [List.map_map]
  have key : ∀ p ∈ ps, ((fun n => (n, (cnt ps n).getD 0)) ∘ Prod.fst) p = p := fun p hp => by
    show (p.1, (cnt ps p.1).getD 0) = p
    rw [(cnt_mem h).mp (show (p.1, p.2) ∈ ps from hp)]
    rfl
  rw [List.map_congr_left key, List.map_id']
theorem asc_unique {a b : List (Int × Int)} (ha : Asc a) (hb : Asc b) (p : a.Perm b) : a = b := by
  have k : a.map Prod.fst = b.map Prod.fst := sorted_one ha hb fun k => (p.map Prod.fst).mem_iff
  rw [← self_cnt (asc_nodup ha), ← self_cnt (asc_nodup hb), k]
  exact List.map_congr_left fun n _ => by rw [cnt_perm (asc_nodup hb) p]
theorem siz_of {i : Int} (h : 0 < i) (h2 : i.natAbs < 10 ^ 200) : sizB i = true := by
  unfold sizB intB
  rw [decide_eq_true h2, decide_eq_true (show 1 ≤ i by omega)]
  rfl
theorem parts_ok : ∀ (n : Nat) (ws : List (Int × Int)), ws.length = n → ∀ q ∈ partsOf ws, ∀ x ∈ q, ∃ y ∈ ws, x.1 = y.1 ∧ 0 < x.2 ∧ x.2 ≤ y.2
  | 0, ws, hn, q, hq => by
    rw [List.eq_nil_of_length_eq_zero hn] at hq
    cases List.mem_singleton.mp hq
    exact fun x hx => nomatch hx
  | n + 1, ws, hn, q, hq => by
    have hne : ws ≠ [] := fun e => by rw [e] at hn; cases hn
    have e : ws = ws.dropLast ++ [ws.getLast hne] := (List.dropLast_concat_getLast hne).symm
    have ih := parts_ok n ws.dropLast (by rw [List.length_dropLast, hn]; rfl)
    generalize ws.getLast hne = p at e
    generalize ws.dropLast = us at e ih
    subst e
    rw [parts_snoc] at hq
    obtain ⟨r, hr, hm⟩ := List.mem_flatMap.mp hq
    intro x hx
    have old : x ∈ r → ∃ y ∈ us ++ [p], x.1 = y.1 ∧ 0 < x.2 ∧ x.2 ≤ y.2 := fun m => by
      obtain ⟨y, h1, h2⟩ := ih r hr x m
      exact ⟨y, List.mem_append_left _ h1, h2⟩
    rcases List.mem_cons.mp hm with rfl | hm
    · exact old hx
    · obtain ⟨k, hk, rfl⟩ := List.mem_map.mp hm
      have := List.mem_range.mp hk
      rcases List.mem_append.mp hx with m | m
      · exact old m
      · rw [List.mem_singleton.mp m]
        exact ⟨p, List.mem_append_right _ (List.mem_singleton.mpr rfl), rfl, by show (0 : Int) < ((k + 1 : Nat) : Int); omega, by show ((k + 1 : Nat) : Int) ≤ p.2; omega⟩
theorem parts_cts {ws q : List (Int × Int)} (hc : Cts ws) (hq : q ∈ partsOf ws) : Cts q := by
  have sb := parts_keys _ _ rfl q hq
  have l := sb.length_le
  rw [List.length_map, List.length_map] at l
  refine ⟨List.Nodup.sublist sb hc.nd, Nat.le_trans l hc.ln, fun x hx => ?_⟩
  obtain ⟨y, hy, e, h1, h2⟩ := parts_ok _ _ rfl q hq x hx
  obtain ⟨s1, s2⟩ := hc.ok y hy
  have z := siz_int s2
  exact ⟨by rw [e]; exact s1, siz_of h1 (by omega)⟩
section
variable {K : PySem.W.Frag} {σ : L2.St} {H : Hp} {tl te ty td : TE} {tt : TT} {a p : Addr} {ns : List Int} {n : Int} {j : Nat} {ws : List Nat}
theorem el_lcNL (c : Int → Bool) (f : Int → V) (h : EvL tl σ H (ns.map V.int)) (hz : ns.length ≤ 40000) (hw : ∀ x, wipe ((wipe σ ws).set j (some x)) ws = wipe σ ws)
    (ht : ∀ n ∈ ns, ∀ H1, Ex H H1 → EvT tt ((wipe σ ws).set j (some (.int n))) H1 (c n)) (he : ∀ n ∈ ns, c n = true → ∀ H1, Ex H H1 → Ev te ((wipe σ ws).set j (some (.int n))) H1 (f n)) :
    EvL (tLc (iList K tl) (gName j) tt te ws) σ H ((ns.filter c).map f) := fun H0 e0 Q q => h H0 e0 _ fun a H1 _ e1 hx => ⟨a, rfl, ⟨_, SqL.of hx⟩, fun D hD => by
  refine lc_it walk_list (fun i H' => H1 D = none ∧ Ex H1 H' ∧ ∃ vs, H' D = some (.lst vs) ∧ vs.length ≤ i ∧ vs = ((ns.take i).filter c).map f) ⟨hD, Ex.new hD, [], upd_same, Nat.le_refl _, rfl⟩ (fun i H' _ p => SqL.of (p.2.1 _ _ hx)) ?_ ?_
  · rintro i x H2 H3 hi ⟨p1, p2, vs, p3, p4, p5⟩ ⟨e3, hxi⟩
    rw [e3]
    rw [List.length_map] at hi
    rw [List.getElem?_map, List.getElem?_eq_getElem hi] at hxi
    obtain rfl := Option.some.inj hxi
    have m := List.getElem_mem hi
    have e02 := (e0.trans e1).trans p2
    refine ⟨hw _, ht _ m H2 e02 H2 (Ex.refl H2) _ fun H4 e4 => ?_⟩
    have st : ns.take (i + 1) = ns.take i ++ [ns[i]] := by rw [List.take_add_one, List.getElem?_eq_getElem hi]; rfl
    cases hc : c ns[i] with
    | true =>
      refine iteT (he _ m hc H4 (e02.trans e4) H4 (Ex.refl H4) _ fun H5 e5 => ⟨vs, (e4.trans e5) _ _ p3, sz_lt (by omega), p1, Ex.mut (p2.trans (e4.trans e5)) p1, vs ++ [f ns[i]], upd_same, by rw [List.length_append]; exact Nat.succ_le_succ p4, ?_⟩)
      rw [st, List.filter_append, List.map_append, show [ns[i]].filter c = [ns[i]] by rw [List.filter_cons, hc]; rfl, p5]
      rfl
    | false =>
      refine iteF ⟨p1, p2.trans e4, vs, e4 _ _ p3, Nat.le_succ_of_le p4, ?_⟩
      rw [st, List.filter_append, show [ns[i]].filter c = [] by rw [List.filter_cons, hc]; rfl, List.append_nil]
      exact p5
  · rintro H2 ⟨p1, p2, vs, p3, _, p5⟩
    rw [List.length_map, List.take_of_length_le (Nat.le_refl _)] at p5
    rw [p5] at p3
    exact q D H2 (fresh_back e1 p1) (e1.trans p2) p3⟩
end
end Ck
namespace Ck
open PySem PySem.Spec PyProof.Rows L2
theorem Chd.nodup {ns : List Int} {L : Int} (h : Chd ns L) : ns.Nodup := List.Pairwise.imp (fun {a b} (x : a < b ∧ a ∣ b) (e : a = b) => by omega) h.pw
end Ck
namespace Ck
open PySem PySem.Spec PyProof.Rows L2 StX Evl
section
variable {K : PySem.W.Frag} {σ : L2.St} {H : Hp} {ta tb te : TE} {tr : TA} {C a : Addr} {ds es : List PyData}
abbrev tLot0 (K : PySem.W.Frag) (C : Addr) : TE := tMakeR C (fun vs H Q E => spLotI K C (vs ++ [.non]) H Q E) E0 tNil
end
end Ck

namespace Ck
open PySem PySem.Spec PyProof.Rows L2 StX Evl
section
variable {K : PySem.W.Frag} {mg : Str → Option Value} {x qual : Str} {C f p g T : Addr} {st : Stmt} {ps : List Str} {oc kV dc pm cd ct oT : Value} {od an dT : Option Addr} {sl sT : Array (Option Value)} {nT : Nat} {rest : List Value}
theorem dpr_mk (a : PySem.W.findIn K (.ref C) x = some (some (.ref p))) (gt : PySem.W.specialIn K (.ref p) "__get__" = some (some (.builtin "property.__get__"))) (tk : PySem.W.takesIn K (.ref p) = some true) (rc : PySem.W.recIn K p "property" = some (.ref g :: rest))
    (l : K.lookup g = some ⟨oc, od, .func (PySem.W.fnOf x qual (defArgs st) (defBody st) (defScope st) .none kV dc pm an cd ct), sl⟩) (c : PySem.W.codeIn K cd qual = true) (k : PySem.W.keepIn K (.ref g) = true)
    (h : ∀ (kV doc pm : Value) (an : Option Addr) (cdv ct : Value) (us : List Value), us.length = (["self"] : List Str).length → bindArgs (PySem.W.fnOf x qual (defArgs st) (defBody st) (defScope st) .none kV doc pm an cdv ct) ⟨us, []⟩ = pure ((["self"] : List Str).zip us)) : Dpr K C x qual st :=
  ⟨p, g, _, ⟨a, gt, tk, rest, rc⟩, fun_mk l c k, (fun_mk (st := st) l c k).binds h⟩
theorem dop_mk (a : PySem.W.findIn K (.ref C) x = some (some (.ref g))) (i : PySem.W.isFn K (.ref g) = true) (fi : PySem.W.fnIn K g = true)
    (l : K.lookup g = some ⟨oc, od, .func (PySem.W.fnOf x qual (defArgs st) (defBody st) (defScope st) .none kV dc pm an cd ct), sl⟩) (c : PySem.W.codeIn K cd qual = true) (k : PySem.W.keepIn K (.ref g) = true)
    (h : ∀ (kV doc pm : Value) (an : Option Addr) (cdv ct : Value) (us : List Value), us.length = ps.length → bindArgs (PySem.W.fnOf x qual (defArgs st) (defBody st) (defScope st) .none kV doc pm an cdv ct) ⟨us, []⟩ = pure (ps.zip us)) : Dop K C x qual st ps :=
  ⟨g, _, a, i, fi, k, fun_mk l c k, (fun_mk (st := st) l c k).binds h⟩
theorem din_mk (gc : mg x = some (.ref C)) (mks : PySem.W.makesIn K C = true) (a : PySem.W.findIn K (.ref C) "__init__" = some (some (.ref f))) (i : PySem.W.isFn K (.ref f) = true) (kc : PySem.W.keepIn K (.ref C) = true)
    (l : K.lookup f = some ⟨oc, od, .func (PySem.W.fnOf "__init__" qual (defArgs st) (defBody st) (defScope st) (.ref T) kV dc pm an cd ct), sl⟩) (lT : K.lookup T = some ⟨oT, dT, .seq #[.none] nT, sT⟩) (c : PySem.W.codeIn K cd qual = true) (k : PySem.W.keepIn K (.ref f) = true) (h2 : ps.length = 2)
    (b2 : ∀ (T : Addr) (kV doc pm : Value) (an : Option Addr) (cdv ct : Value) (us its : List Value), us.length = 2 → its.length = 1 →
      ∃ k, bindArgs (PySem.W.fnOf "__init__" qual (defArgs st) (defBody st) (defScope st) (.ref T) kV doc pm an cdv ct) ⟨us, []⟩ = seqItems? (.ref T) >>= k ∧ k (some its.toArray) = pure (ps.zip (us ++ its.drop 1)))
    (b1 : ∀ (T : Addr) (kV doc pm : Value) (an : Option Addr) (cdv ct : Value) (us its : List Value), us.length = 1 → its.length = 1 →
      ∃ k, bindArgs (PySem.W.fnOf "__init__" qual (defArgs st) (defBody st) (defScope st) (.ref T) kV doc pm an cdv ct) ⟨us, []⟩ = seqItems? (.ref T) >>= k ∧ k (some its.toArray) = pure (ps.zip (us ++ its.drop 0))) : Din K mg x C qual st ps := by
  have F : FunD K "__init__" qual (defArgs st) (defBody st) (defScope st) [V.non] [] f (PySem.W.fnOf "__init__" qual (defArgs st) (defBody st) (defScope st) (.ref T) kV dc pm an cd ct) :=
    ⟨⟨oc, od, .ref T, kV, dc, pm, an, cd, ct, sl, rfl, l, c, .inr ⟨List.cons_ne_nil _ _, T, _, [.none], nT, rfl, lT, rfl, .cons rfl .nil⟩, .inl rfl⟩, k⟩
  refine ⟨f, _, ⟨mks, a, i, kc⟩, gc, F, ?_, F.binds1 1 0 (List.cons_ne_nil _ _) (by rw [h2]; rfl) b1⟩
  obtain ⟨ds, v, b⟩ := F.binds1 2 1 (List.cons_ne_nil _ _) (by rw [h2]; rfl) b2
  cases v
  exact b
end
end Ck

namespace Ck
open PySem PySem.Spec PyProof.Rows L2 Evl
theorem bool_iff {a b : Bool} (h : a = true ↔ b = true) : a = b := by
  cases a <;> cases b <;> simp at h <;> rfl
section
variable {us : List (Int × Int)} {p : Int × Int}
end
end Ck

namespace Ck
open PySem PySem.Spec PyProof.Rows L2 Evl
end Ck

namespace Ck
open PySem PySem.Spec PyProof.Rows L2
section
variable {P : Program} {w : World} {A : Around} {E : Value → Shared → Prop} {s : Shared} {a : Addr}
end
section
variable {X : Cx}
end
section
variable {X : Cx} {k j : Nat} {C : Addr} {sp : Sp} {ps : List Str}
end
end Ck
namespace Ck
open PySem PySem.Spec PyProof.Rows L2
section
variable {X : Cx}
end
end Ck

namespace Ck
open PySem PySem.Spec PyProof.Rows L2 StX Evl
def spBtw : Sp := fun vs H Q _ => ∃ v lo hi : Int, vs = [.int v, .int lo, .int hi] ∧ v.natAbs < 10 ^ 200 ∧ lo ≤ v ∧ v ≤ hi ∧ ∀ H', Ex H H' → Q .non H'
section
variable {K : PySem.W.Frag} {σ : L2.St} {H : Hp} {C a l : Addr} {te tl : TE} {ta : TA} {ps : List (Int × Int)} {ns us : List Int} {xs : List V} {ts : List (Int × Int × Int)} {b n : Int} {w : World}
end
end Ck
namespace Ck
open PySem PySem.Spec PyProof.Rows L2 StX Evl
theorem atI_0 (x : V) (xs : List V) : atI (x :: xs) 0 = some x := atI_nat (xs := x :: xs) (j := 0) rfl
section
variable {K : PySem.W.Frag} {σ : L2.St} {H : Hp} {C a : Addr} {te tb : TE} {ps : List (Int × Int)} {xs : List V} {i : Int} {v : V}
theorem ev_ixTu (h : Etu K te σ H xs) (hb : Ev tb σ H (.int i)) (hi : atI xs i = some v) : Ev (tOp (rIxT K) te tb) σ H v := fun H1 e Q q => h H1 e _ fun p H2 e2 hp => hb H2 (e.trans e2) _ fun H3 e3 => rv_ixT (ex_t e3 hp) hi H3 (Ex.refl H3) Q fun H4 e4 => q H4 ((e2.trans e3).trans e4)
end
end Ck
namespace Ck
open PySem PySem.Spec PyProof.Rows L2 StX Evl
section
variable {K : PySem.W.Frag} {σ : L2.St} {H : Hp} {C a d p : Addr} {ta te tb tl : TE} {tr : TA} {ps : List (Int × Int)} {xs : List V} {i n : Int} {v : V} {j : Nat} {ws : List Nat} {kvs : List (Key × V)}
end
theorem eqv_lints (ms ns : List Int) : PyData.eqv (.list (ms.map PyData.int)) (.list (ns.map PyData.int)) = decide (ms = ns) := by
  simp only [PyData.eqv, eqv_tups]
theorem shaped_lints (ns : List Int) : SeqAt.shaped (.list (ns.map PyData.int)) = true := by
  obtain ⟨a, b⟩ := lay_ints ns
  unfold SeqAt.shaped
  simp only [PyData.canLay0, PyData.depth, a, b]
  rfl
theorem dpa_lints {K : PySem.W.Frag} {H : Hp} (ns : List Int) : DpAll K H (ns.map V.int) (ns.map PyData.int) := dpa_ints ns
end Ck
namespace Ck
end Ck
namespace Ck
open PySem PySem.Spec PyProof.Rows L2 StX Evl
theorem ev_neg {σ : L2.St} {H : Hp} {te : TE} {i : Int} (h : Ev te σ H (.int i)) : Ev (tUn (rU fun i => .int (-i)) te) σ H (.int (-i)) := ev_un h fun H1 _ _ q => ⟨i, rfl, q H1 (Ex.refl H1)⟩
end Ck
namespace Ck
open PySem PySem.Spec PyProof.Rows L2 StX Evl
section
variable {K : PySem.W.Frag} {σ : L2.St} {H : Hp} {C a : Addr} {te : TE}
end
end Ck

namespace Ck
open PySem PySem.Spec PyProof.Rows L2 Evl
end Ck
namespace Ck
open PySem PySem.Spec PyProof.Rows L2 StX Evl
theorem nolock {X : Cx} {e : Expr} {t : TE} (h : PE X e t) : PE X e t := h
section
variable {K : PySem.W.Frag} {σ : L2.St} {H : Hp} {td te : TE} {tt : TT} {d : Addr} {od : Obj} {kvs : List (Key × V)} {j : Nat} {ws : List Nat}
theorem el_lcKF (f : Nat → Bool) (v : Nat → V) (hv : ∀ H1, Ev td σ H1 (.ref d)) (hd : H d = some (.frz od (.dK kvs))) (hl : kvs.length ≤ 40000) (hw : ∀ x, wipe ((wipe σ ws).set j (some x)) ws = wipe σ ws)
    (ht : ∀ i k x H1, kvs[i]? = some (k, x) → Ex H H1 → EvT tt ((wipe σ ws).set j (some (kV k))) H1 (f i)) (he : ∀ i k x H1, kvs[i]? = some (k, x) → Ex H H1 → f i = true → Ev te ((wipe σ ws).set j (some (kV k))) H1 (v i)) :
    EvL (tLc (iKeys td) (gName j) tt te ws) σ H (given kvs.length f v) := fun H0 e Q q => by
  refine hv _ _ (Ex.refl _) _ fun H2 e2 => ?_
  have e02 := e.trans e2
  have hd2 := e02 _ _ hd
  refine ⟨d, od, rfl, .inl ⟨kvs, hd2, fun D hD => ?_⟩⟩
  refine lc_it walk_keys (Cw H2 f v D) ⟨hD, Ex.new hD, upd_same⟩ (fun _ _ _ p => p.2.1 _ _ hd2) ?_ (fun H' p => ?_)
  · rintro i _ H' _ hi p ⟨rfl, k, x, hk, rfl⟩
    exact ⟨hw _, cw_turn p (by omega) (ht i k x H2 hk e02) (fun hf => he i k x H2 hk e02 hf)⟩
  · obtain ⟨p1, p2, p3⟩ := p
    exact q D _ (fresh_back e2 p1) (e2.trans p2) p3
end
def spSmtF : Sp := fun vs H Q _ => ∃ d s ps, vs = [.ref d, .int s] ∧ (∃ od, H d = some (.frz od (.dK (ps.map kc)))) ∧ Cts ps ∧ ∀ H', Ex H H' → Q (.int (sml ps s)) H'
end Ck
namespace Ck
open PySem PySem.Spec PyProof.Rows L2 StX Evl
section
variable {K : PySem.W.Frag} {σ : L2.St} {H : Hp} {ta tb te tl : TE} {d : Addr} {ps : List (Int × Int)} {ns : List Int} {xs ys : List V}
theorem el_catL (ha : EvL ta σ H xs) (hb : EvL tb σ H ys) (hz : xs.length + ys.length ≤ 100000) : EvL (tOp rCat ta tb) σ H (xs ++ ys) := fun H1 e Q q => ha H1 e _ fun a H2 n2 e2 hx => hb H2 (e.trans e2) _ fun b H3 n3 e3 hy =>
  ⟨a, b, xs, ys, rfl, rfl, e3 _ _ hx, hy, sz_of hz, fun p hp => q p _ (fresh_back (e2.trans e3) hp) ((e2.trans e3).trans (Ex.new hp)) upd_same⟩
end
end Ck
namespace Ck
open PySem PySem.Spec PyProof.Rows L2 StX Evl
end Ck
namespace Ck
open PySem PySem.Spec PyProof.Rows L2 StX Evl
section
variable {K : PySem.W.Frag} {H H' : Hp} {d : Addr}
theorem dice_ne {b : Addr} {o : HO} (hd : Dice H d) (h : H b = some o) (n : ∀ xs, o ≠ .lst xs) : b ≠ d := fun e => by
  obtain ⟨x, y, z, q⟩ := hd
  rw [e, q] at h
  exact n _ (Option.some.inj h).symm
theorem sqT_kp {t : Addr} {xs : List V} (hd : Dice H d) (k : Kp d H H') (h : SqT K H t xs) : SqT K H' t xs := by
  rcases h with (h | ⟨o, h⟩) | h
  · exact .inl (.inl (k _ _ (dice_ne hd h fun _ z => by cases z) h))
  · exact .inl (.inr ⟨o, k _ _ (dice_ne hd h fun _ z => by cases z) h⟩)
  · exact .inr h
end
end Ck
namespace Ck
open PySem PySem.Spec PyProof.Rows L2 StX Evl
section
variable {K : PySem.W.Frag} {σ : L2.St} {H : Hp} {ta tb : TE}
end
end Ck

namespace Ck
open PySem PySem.Spec PyProof.Rows L2
section
variable {X : Cx}
end
section
variable {X : Cx} {k j : Nat} {C : Addr} {m : Str} {sp : Sp} {ps : List Str} {e o : Expr} {es : List Expr} {ta : TE} {t : TA} {apos pos : Pos} {pl : Sem Bool}
theorem pmeth (c : Og X.prog X.w X.K X.mg X.base k C m ps sp) (hr : Room j X.A) (he : PE X o ta) (ha : PA X (e :: es) t) (hk : k ≤ j := by decide)
    (hst : starEach (e :: es) X.env = (false, eval e X.env) :: starEach es X.env := by rfl) (hpl : (backTo pos (starEach es X.env)).any (·.1) = false := by rfl)
    (ht : eval (.Call (.Attribute o m apos) (e :: es) [] pos) X.env = (do
      let ov ← eval o X.env
      standAt apos.atName
      let (f, first) ← holding [ov] (getMethod ov m pl)
      callWith pos f first (backTo pos (starEach (e :: es) X.env)) (backToKw pos (keywordEach [] X.env))) := by rfl) :
    PE X (.Call (.Attribute o m apos) (e :: es) [] pos) (tMeth C m sp [] E0 ta t) := by
  obtain ⟨hc, g, fd, hs, hfn, hf, kp, F, b⟩ := c
  exact pe_meth (pl := pl) he hc ⟨hs, hfn, kp⟩ F (hr.mono hk) b .nil pass0 ha hst hpl ht
end
end Ck

namespace Ck
open PySem PySem.Spec PyProof.Rows L2 StX Evl
def partB (qs ps : List (Int × Int)) : Bool := qs.all fun q => decide (q.2 ≤ (cnt ps q.1).getD 0)
def spCounts (K : PySem.W.Frag) (C : Addr) : Sp := fun vs H Q _ => ∃ a ps, vs = [.ref a] ∧ LotAt K C H a ps ∧ ∀ p H', Ex H H' → H p = none → H' p = some (.dK (ps.map kc)) → Q (.ref p) H'
def spPartOf (K : PySem.W.Frag) (C : Addr) : Sp := fun vs H Q _ => ∃ a b qs ps, vs = [.ref a, .ref b] ∧ LotAt K C H a qs ∧ LotAt K C H b ps ∧ Cts qs ∧ ∀ H', Ex H H' → Q (.bl (partB qs ps)) H'
end Ck
namespace Ck
open PySem PySem.Spec PyProof.Rows L2 StX Evl
end Ck
namespace Ck
open PySem PySem.Spec PyProof.Rows L2 StX Evl
section
variable {K : PySem.W.Frag}
theorem kit_ofT {T : String} {C : Addr} {b : Bool} (h : PySem.W.subIn K (.type T) (.ref C) = some b) (hc : PySem.W.isClsIn K C = true) (ht : PySem.W.typeIn K (.ref C) = some (.type "type")) : PySem.W.kitOne K (.type T) (.ref C) = some b := by
  unfold PySem.W.kitOne
  rw [if_neg (by simp)]
  show (if ((PySem.W.clsIn K C).isSome && PySem.W.typeIn K (.ref C) == some (.type "type")) = true then PySem.W.subIn K (.type T) (.ref C) else none) = some b
  rw [if_pos (by rw [show (PySem.W.clsIn K C).isSome = true from hc, ht]; rfl), h]
theorem kit_toT {D : Addr} {T : String} {b : Bool} (h : PySem.W.subIn K (.ref D) (.type T) = some b) (hm : PySem.W.kitMeta T = true) : PySem.W.kitOne K (.ref D) (.type T) = some b := by
  show (if PySem.W.kitMeta T = true then PySem.W.subIn K (.ref D) (.type T) else none) = some b
  rw [if_pos hm, h]
end
section
variable {K : PySem.W.Frag} {C : Addr} {p : Int → Bool} {H : Hp} {i : Int} {x : V}
end
theorem lot_meth (t1 t2 d : Addr) : (lotF t1 t2 d).lookup ("is_part_of" : Str) = none := by
  unfold lotF
  rw [lookup_putF, if_neg (by decide +kernel), lookup_putF, if_neg (by decide +kernel), lookup_putF, if_neg (by decide +kernel)]
  rfl
end Ck
namespace Ck
open PySem PySem.Spec PyProof.Rows L2 StX Evl
section
variable {K : PySem.W.Frag} {σ : L2.St} {H : Hp} {ta tb : TE} {t : Addr} {xs : List V} {i : Int} {ns : List Int}
theorem ev_inTI (ha : Ev ta σ H (.int i)) (hb : Ev tb σ H (.ref t)) (ht : SqT K H t (ns.map V.int)) : Ev (tOp (rIn K false) ta tb) σ H (.bl (decide (i ∈ ns))) := fun H1 e Q q => ha H1 e _ fun H2 e2 => hb H2 (e.trans e2) _ fun H3 e3 => ⟨t, ns.map V.int, rfl, .inr (ex_t ((e.trans e2).trans e3) ht), rfl, by
  rw [List.all_map]
  exact List.all_eq_true.mpr fun _ _ => rfl, by
  have z := q H3 (e2.trans e3)
  have e : inV (.int i) (ns.map V.int) = decide (i ∈ ns) := by
    unfold inV
    rw [List.any_map]
    refine bool_iff ?_
    rw [List.any_eq_true, decide_eq_true_eq]
    constructor
    · rintro ⟨x, hx, e⟩
      have e : (x == i) = true := e
      rw [← beq_iff_eq.mp e]
      exact hx
    · exact fun h => ⟨i, h, show (i == i) = true from beq_self_eq_true i⟩
  show Q (.bl (if false = true then _ else inV (.int i) (ns.map V.int))) H3
  rw [if_neg Bool.false_ne_true, e]
  exact z⟩
end
end Ck
namespace Ck
open PySem PySem.Spec PyProof.Rows L2 StX Evl
theorem part_bad (qs ps : List (Int × Int)) : decide ((qs.filter fun p => decide ((cnt ps p.1).getD 0 < p.2)).map Prod.fst = []) = partB qs ps := by
  refine bool_iff ?_
  unfold partB
  rw [decide_eq_true_eq, List.map_eq_nil_iff, List.filter_eq_nil_iff, List.all_eq_true]
  constructor
  · intro k p hp
    have := k p hp
    rw [decide_eq_true_eq] at this
    exact decide_eq_true (by omega)
  · intro k p hp
    have := of_decide_eq_true (k p hp)
    rw [decide_eq_true_eq]
    omega
def spLip : Sp := fun vs H Q _ => ∃ d g qs ps, vs = [.ref d, .ref g] ∧ H d = some (.dK (qs.map kc)) ∧ H g = some (.dK (ps.map kc)) ∧ Cts qs ∧ ∀ H', Ex H H' → Q (.bl (partB qs ps)) H'
end Ck
namespace Ck
open PySem PySem.Spec PyProof.Rows L2 StX Evl
end Ck

namespace Ck
open PySem PySem.Spec PyProof.Rows L2 StX Evl
section
variable {K : PySem.W.Frag} {σ : L2.St} {H : Hp} {d g : Addr} {td te tk : TE} {tt : TT} {ta : TA} {j : Nat} {ws : List Nat} {kvs : List (Key × V)} {s c : Int}
theorem RP.kd {H' : Hp} {x : V} {p : Int × Int} (hd : Dice H d) (k : Kd d H H') (h : RP K H x p) : RP K H' x p := h.imp fun t h => ⟨h.1, sqT_kp hd k.1 h.2⟩
end
section
variable {K : PySem.W.Frag} {σ : L2.St} {H : Hp} {ta tb : TE} {α : Type} {R : Hp → V → α → Prop} {as bs : List α} {x y : α}
end
end Ck
namespace Ck
open PySem PySem.Spec PyProof.Rows L2 StX Evl
end Ck
namespace Ck
open PySem PySem.Spec PyProof.Rows L2 StX Evl
section
variable {K : PySem.W.Frag} {σ : L2.St} {H : Hp} {C a t : Addr} {te : TE} {ps qs : List (Int × Int)} {n : Int}
end
end Ck
namespace Ck
open PySem PySem.Spec PyProof.Rows L2 StX Evl
end Ck

namespace Ck
open PySem PySem.Spec PyProof.Rows L2 StX Evl
section
variable {K : PySem.W.Frag} {σ : L2.St} {H : Hp} {d g : Addr} {te td tk : TE} {j i : Nat} {ws : List Nat} {ps : List (Int × Int)} {D : Ends} {z : TS}
end
end Ck
namespace Ck
open PySem PySem.Spec PyProof.Rows L2 StX Evl
section
variable {K : PySem.W.Frag} {σ : L2.St} {H : Hp} {te tl : TE} {tr : TA} {tt : TT} {Pr : V → Hp → Prop} {n i i' j : Nat} {l : Addr} {xs : List V} {D : Ends} {z : TS} {ws : List Nat}
end
end Ck
namespace Ck
open PySem PySem.Spec PyProof.Rows L2 StX Evl
section
variable {K : PySem.W.Frag} {σ : L2.St} {H : Hp} {te tl : TE} {tt : TT} {i j : Nat} {d l : Addr} {xs : List V} {D : Ends} {z : TS} {ws : List Nat}
theorem q_asgP (P : V → Hp → Prop) (h : ∀ Q : VK, (∀ v H1, P v H1 → Q v H1) → te σ H Q) (k : ∀ v H1, P v H1 → z D (σ.set i (some v)) H1) : tSeq (tAsg te (gName i)) z D σ H := h (fun x H1 => gName i x σ H1 (z D)) k
end
end Ck

namespace Ck
open PySem PySem.Spec PyProof.Rows L2 StX Evl
section
variable {J : It} {n : Nat} {G : Hp → Prop} {Y : Nat → Hp → V → Hp → Prop}
theorem dc_it (w : Walk J n G Y) {g : TG} {tt : TT} {tk tv : TE} {vs : List Nat} {σ : L2.St} {H1 : Hp} {D : Addr} {Qd : Hp → Prop} (Pv : Nat → Hp → Prop) (h0 : Pv 0 (upd H1 D (.dK []))) (hG : ∀ i H, i ≤ n → Pv i H → G H)
    (hs : ∀ i x H H', i < n → Pv i H → Y i H x H' → g x (wipe σ vs) H' fun σ2 H2 => wipe σ2 vs = wipe σ vs ∧ tt σ2 H2 fun b H3 =>
      if b = true then tk σ2 H3 fun y H4 => tv σ2 H4 fun z H5 => ∃ kvs k, y = kV k ∧ H5 D = some (.dK kvs) ∧ kvs.length < sizeLine ∧ Pv (i + 1) (upd H5 D (.dK (putK kvs k z))) else Pv (i + 1) H3) (hd : ∀ H, Pv n H → Qd H) :
    ∃ W : Nat → Nat → Hp → Prop, (∃ m, W 0 m (upd H1 D (.dK []))) ∧ ∀ i m H, W i m H →
      (J.stop i H ∧ Qd H) ∨ (J.go i H ∧ ∃ Nx : Hp → Prop, (∀ H', Nx H' → ∃ m', m' < m ∧ W (i + 1) m' H') ∧ ∀ x H', J.yld i H x H' → g x (wipe σ vs) H' fun σ2 H2 => wipe σ2 vs = wipe σ vs ∧ tt σ2 H2 fun b H3 =>
        if b = true then tk σ2 H3 fun y H4 => tv σ2 H4 fun z H5 => ∃ kvs k, y = kV k ∧ H5 D = some (.dK kvs) ∧ kvs.length < sizeLine ∧ Nx (upd H5 D (.dK (putK kvs k z))) else Nx H3) := by
  refine ⟨fun i m H => m = n - i ∧ i ≤ n ∧ Pv i H, ⟨n, by simp, Nat.zero_le _, h0⟩, ?_⟩
  rintro i m H ⟨rfl, hi, p⟩
  have q := hG i H hi p
  by_cases hlt : i < n
  · refine .inr ⟨w.goes i H hlt q, Pv (i + 1), fun H' p' => ⟨n - (i + 1), by omega, rfl, hlt, p'⟩, fun x H' y => hs i x H H' hlt p (w.yields i H x H' hlt q y)⟩
  · have e : i = n := by omega
    subst e
    exact .inl ⟨w.stops H q, hd H p⟩
end
def putP (acc : List (Int × Int)) (p : Int × Int) : List (Int × Int) := if p.1 ∈ acc.map Prod.fst then acc.map (fun q => if q.1 = p.1 then p else q) else acc ++ [p]
def merP (acc more : List (Int × Int)) : List (Int × Int) := more.foldl putP acc
theorem putP_kc (acc : List (Int × Int)) (p : Int × Int) : putK (acc.map kc) (Sum.inl p.1 : Key) (.int p.2) = (putP acc p).map kc := by
  unfold putK putP
  have e : ((acc.map kc).any fun kv => decide (kv.1 = (Sum.inl p.1 : Key))) = decide (p.1 ∈ acc.map Prod.fst) := by
    rw [List.any_map]
    refine bool_iff ?_
    rw [List.any_eq_true, decide_eq_true_eq, List.mem_map]
    constructor
    · rintro ⟨x, hx, e⟩
      exact ⟨x, hx, Sum.inl.inj (of_decide_eq_true e)⟩
    · rintro ⟨x, hx, e⟩
      exact ⟨x, hx, decide_eq_true (congrArg Sum.inl e)⟩
  rw [e]
  by_cases h : p.1 ∈ acc.map Prod.fst
  · rw [decide_eq_true h, if_pos rfl, if_pos h, List.map_map, List.map_map]
    refine List.map_congr_left fun q _ => ?_
    show (if (kc q).1 = (Sum.inl p.1 : Key) then ((kc q).1, V.int p.2) else kc q) = kc (if q.1 = p.1 then p else q)
    by_cases z : q.1 = p.1
    · rw [if_pos (show (kc q).1 = (Sum.inl p.1 : Key) from congrArg Sum.inl z), if_pos z]
      show ((Sum.inl q.1 : Key), V.int p.2) = ((Sum.inl p.1 : Key), V.int p.2)
      rw [z]
    · rw [if_neg (show ¬ (kc q).1 = (Sum.inl p.1 : Key) from fun e => z (Sum.inl.inj e)), if_neg z]
  · rw [decide_eq_false h, if_neg Bool.false_ne_true, if_neg h, List.map_append]
    rfl
theorem putP_len (acc : List (Int × Int)) (p : Int × Int) : (putP acc p).length ≤ acc.length + 1 := by
  unfold putP
  split
  · rw [List.length_map]
    omega
  · rw [List.length_append]
    exact Nat.le_refl _
theorem merP_snoc (acc more : List (Int × Int)) (p : Int × Int) : merP acc (more ++ [p]) = putP (merP acc more) p := by
  unfold merP
  rw [List.foldl_append]
  rfl
theorem merP_new : ∀ {more acc : List (Int × Int)}, ((acc ++ more).map Prod.fst).Nodup → merP acc more = acc ++ more
  | [], acc, _ => (List.append_nil acc).symm
  | p :: r, acc, h => by
    have n : p.1 ∉ acc.map Prod.fst := fun m => by
      rw [List.map_append, List.map_cons, List.nodup_append] at h
      exact h.2.2 _ m _ List.mem_cons_self rfl
    have e : putP acc p = acc ++ [p] := if_neg n
    show merP (putP acc p) r = _
    rw [e, merP_new (acc := acc ++ [p]) (by rw [List.append_assoc]; exact h), List.append_assoc]
    rfl
theorem merP_self {more : List (Int × Int)} (h : (more.map Prod.fst).Nodup) : merP [] more = more := merP_new (acc := []) h
def EvD (te : TE) (σ : L2.St) (H : Hp) (ps : List (Int × Int)) : Prop := ∀ H1, Ex H H1 → ∀ Q : VK, (∀ p H2, H1 p = none → Ex H1 H2 → H2 p = some (.dK (ps.map kc)) → Q (.ref p) H2) → te σ H1 Q
section
variable {K : PySem.W.Frag} {σ : L2.St} {H : Hp} {td tl tk tv : TE} {tt : TT} {a d : Addr} {ts : List V} {ps : List (Int × Int)} {ns : List Int} {j j2 : Nat} {ws : List Nat}
theorem EvD.is {te : TE} {qs : List (Int × Int)} (h : EvD te σ H ps) (e : ps = qs) : EvD te σ H qs := e ▸ h
theorem dc_turn {H1 H2 : Hp} {D : Addr} {i : Nat} {p : Int × Int} {acc : List (Int × Int)} {σ2 : L2.St} {H3 : Hp} {Pv : Hp → Prop} (p1 : H1 D = none) (p2 : Ex H1 H3) (p3 : H3 D = some (.dK (acc.map kc))) (p4 : acc.length ≤ 40000)
    (hk : Ev tk σ2 H3 (.int p.1)) (hv : Ev tv σ2 H3 (.int p.2)) (k : ∀ H5, Ex H1 H5 → H5 D = some (.dK ((putP acc p).map kc)) → Pv H5) :
    tk σ2 H3 fun y H4 => tv σ2 H4 fun z H5 => ∃ kvs k, y = kV k ∧ H5 D = some (.dK kvs) ∧ kvs.length < sizeLine ∧ Pv (upd H5 D (.dK (putK kvs k z))) :=
  hk H3 (Ex.refl H3) _ fun H4 e4 => hv H4 e4 _ fun H5 e5 => ⟨acc.map kc, Sum.inl p.1, rfl, (e4.trans e5) _ _ p3, sz_lt (by rw [List.length_map]; omega), k _ (Ex.mut (p2.trans (e4.trans e5)) p1) (by rw [upd_same, putP_kc])⟩
theorem dc_tupN (c : Int → Bool) (g : Int → Int × Int) (h : Etu K tl σ H (ns.map V.int)) (hz : ns.length ≤ 40000) (hw : ∀ x, wipe ((wipe σ ws).set j (some x)) ws = wipe σ ws)
    (ht : ∀ n ∈ ns, ∀ H1, Ex H H1 → EvT tt ((wipe σ ws).set j (some (.int n))) H1 (c n)) (hk : ∀ n ∈ ns, c n = true → ∀ H1, Ex H H1 → Ev tk ((wipe σ ws).set j (some (.int n))) H1 (.int (g n).1)) (hv : ∀ n ∈ ns, c n = true → ∀ H1, Ex H H1 → Ev tv ((wipe σ ws).set j (some (.int n))) H1 (.int (g n).2)) :
    EvD (tDc (iTup K tl) (gName j) tt tk tv ws) σ H (merP [] ((ns.filter c).map g)) := fun H0 e0 Q q => h H0 e0 _ fun a H1 e1 hx => ⟨a, rfl, ⟨_, hx⟩, fun D hD => by
  refine dc_it walk_tup (fun i H' => H1 D = none ∧ Ex H1 H' ∧ ∃ acc, H' D = some (.dK (acc.map kc)) ∧ acc.length ≤ i ∧ acc = merP [] (((ns.take i).filter c).map g)) ⟨hD, Ex.new hD, [], upd_same, Nat.le_refl _, rfl⟩ (fun i H' _ p => ex_t p.2.1 hx) ?_ ?_
  · rintro i x H2 H3 hi ⟨p1, p2, acc, p3, p4, p5⟩ ⟨e3, hxi⟩
    rw [e3]
    rw [List.length_map] at hi
    rw [List.getElem?_map, List.getElem?_eq_getElem hi] at hxi
    obtain rfl := Option.some.inj hxi
    have m := List.getElem_mem hi
    have e02 := (e0.trans e1).trans p2
    refine ⟨hw _, ht _ m H2 e02 H2 (Ex.refl H2) _ fun H4 e4 => ?_⟩
    have st : ns.take (i + 1) = ns.take i ++ [ns[i]] := by rw [List.take_add_one, List.getElem?_eq_getElem hi]; rfl
    cases hc : c ns[i] with
    | true =>
      refine iteT (dc_turn (H2 := H4) (i := i) (p := g ns[i]) (Pv := fun H' => H1 D = none ∧ Ex H1 H' ∧ ∃ acc, H' D = some (.dK (acc.map kc)) ∧ acc.length ≤ i + 1 ∧ acc = merP [] (((ns.take (i + 1)).filter c).map g)) p1 (p2.trans e4) (e4 _ _ p3) (by omega) (hk _ m hc H4 (e02.trans e4)) (hv _ m hc H4 (e02.trans e4)) fun H5 e5 h5 => ⟨p1, e5, _, h5, Nat.le_trans (putP_len _ _) (Nat.succ_le_succ p4), ?_⟩)
      rw [st, List.filter_append, List.map_append, show [ns[i]].filter c = [ns[i]] by rw [List.filter_cons, hc]; rfl, p5]
      exact (merP_snoc _ _ _).symm
    | false =>
      refine iteF ⟨p1, p2.trans e4, acc, e4 _ _ p3, Nat.le_succ_of_le p4, ?_⟩
      rw [st, List.filter_append, show [ns[i]].filter c = [] by rw [List.filter_cons, hc]; rfl, List.append_nil]
      exact p5
  · rintro H2 ⟨p1, p2, acc, p3, _, p5⟩
    rw [List.length_map, List.take_of_length_le (Nat.le_refl _)] at p5
    rw [p5] at p3
    exact q D H2 (fresh_back e1 p1) (e1.trans p2) p3⟩
theorem dc_tupP (c : Int × Int → Bool) (g : Int × Int → Int × Int) (h : Ev tl σ H (.ref a)) (ht0 : SqT K H a ts) (hf : F2 (RP K H) ts ps) (hz : ps.length ≤ 40000)
    (hw : ∀ x y, wipe (((wipe σ ws).set j (some x)).set j2 (some y)) ws = wipe σ ws) (ht : ∀ p ∈ ps, ∀ H1, Ex H H1 → EvT tt (((wipe σ ws).set j (some (.int p.1))).set j2 (some (.int p.2))) H1 (c p))
    (hk : ∀ p ∈ ps, c p = true → ∀ H1, Ex H H1 → Ev tk (((wipe σ ws).set j (some (.int p.1))).set j2 (some (.int p.2))) H1 (.int (g p).1)) (hv : ∀ p ∈ ps, c p = true → ∀ H1, Ex H H1 → Ev tv (((wipe σ ws).set j (some (.int p.1))).set j2 (some (.int p.2))) H1 (.int (g p).2)) :
    EvD (tDc (iTup K tl) (gTup K 2 (gCons (gName j) (gCons (gName j2) gNil))) tt tk tv ws) σ H (merP [] ((ps.filter c).map g)) := fun H0 e0 Q q => h H0 e0 _ fun H1 e1 => ⟨a, rfl, ⟨ts, ex_t (e0.trans e1) ht0⟩, fun D hD => by
  have e01 := e0.trans e1
  refine dc_it walk_tup (fun i H' => H1 D = none ∧ Ex H1 H' ∧ ∃ acc, H' D = some (.dK (acc.map kc)) ∧ acc.length ≤ i ∧ acc = merP [] (((ps.take i).filter c).map g)) ⟨hD, Ex.new hD, [], upd_same, Nat.le_refl _, rfl⟩ (fun i H' _ p => ex_t (e01.trans p.2.1) ht0) ?_ ?_
  · rintro i x H' H2 hi ⟨p1, p2, acc, p3, p4, p5⟩ ⟨rfl, hxi⟩
    obtain ⟨p, hp, t, rfl, hpt⟩ := hf.at hxi
    have m := List.mem_of_getElem? hp
    have st : ps.take (i + 1) = ps.take i ++ [p] := by rw [List.take_add_one, hp]; rfl
    have i12 : i < ps.length := (List.getElem?_eq_some_iff.mp hp).1
    refine ⟨t, _, rfl, ex_t (e01.trans p2) hpt, rfl, _, _, rfl, _, _, rfl, rfl, hw _ _, ht p m H2 (e01.trans p2) H2 (Ex.refl _) _ fun H4 e4 => ?_⟩
    cases hc : c p with
    | true =>
      refine iteT (dc_turn (H2 := H4) (i := i) (p := g p) (Pv := fun H' => H1 D = none ∧ Ex H1 H' ∧ ∃ acc, H' D = some (.dK (acc.map kc)) ∧ acc.length ≤ i + 1 ∧ acc = merP [] (((ps.take (i + 1)).filter c).map g)) p1 (p2.trans e4) (e4 _ _ p3) (by omega) (hk p m hc H4 (e01.trans (p2.trans e4))) (hv p m hc H4 (e01.trans (p2.trans e4))) fun H5 e5 h5 => ⟨p1, e5, _, h5, Nat.le_trans (putP_len _ _) (Nat.succ_le_succ p4), ?_⟩)
      rw [st, List.filter_append, List.map_append, show [p].filter c = [p] by rw [List.filter_cons, hc]; rfl, p5]
      exact (merP_snoc _ _ _).symm
    | false =>
      refine iteF ⟨p1, p2.trans e4, acc, e4 _ _ p3, Nat.le_succ_of_le p4, ?_⟩
      rw [st, List.filter_append, show [p].filter c = [] by rw [List.filter_cons, hc]; rfl, List.append_nil]
      exact p5
  · rintro H2 ⟨p1, p2, acc, p3, _, p5⟩
    rw [hf.len, List.take_of_length_le (Nat.le_refl _)] at p5
    rw [p5] at p3
    exact q D H2 (fresh_back e1 p1) (e1.trans p2) p3⟩
end
end Ck

namespace Ck
open PySem PySem.Spec PyProof.Rows L2 StX Evl
section
variable {X : Cx}
end
end Ck

namespace Ck
open PySem PySem.Spec PyProof.Rows L2 StX Evl
theorem sum_cons2 {α : Type} (a : α) (r : List α) (f : α → Int) : ((a :: r).map f).sum = f a + (r.map f).sum := by rw [List.map_cons, List.sum_cons]
theorem len_sub : ∀ {as bs : List Int}, as.Nodup → (∀ a ∈ as, a ∈ bs) → as.length ≤ bs.length
  | [], _, _, _ => Nat.zero_le _
  | a :: r, bs, h, sub => by
    obtain ⟨n, h2⟩ := List.nodup_cons.mp h
    have m := sub a List.mem_cons_self
    have := len_sub (bs := bs.erase a) h2 fun b hb => (List.mem_erase_of_ne (fun e : b = a => n (by rw [← e]; exact hb))).mpr (sub b (List.mem_cons_of_mem a hb))
    rw [List.length_erase_of_mem m] at this
    have := List.length_pos_of_mem m
    rw [List.length_cons]
    omega
end Ck

namespace Ck
open PySem PySem.Spec PyProof.Rows L2 StX Evl
def eqP (as bs : List (Int × Int)) : Bool := (as.length == bs.length) && as.all fun p => decide (cnt bs p.1 = some p.2)
section
variable {X : Cx}
theorem hits_kc {A : Around} {s : Shared} {bs : List (Int × Int)} {vb : List (Key × Value)} (rb : KV (bs.map kc) vb) : ∀ {as : List (Int × Int)} {va : List (Key × Value)}, KV (as.map kc) va → ∃ r, r = (as.all fun p => decide (cnt bs p.1 = some p.2)) ∧ PySem.W.KeqHits A s vb va r
  | [], va, ra => by
    unfold KV at ra
    cases ra
    exact ⟨_, rfl, .nil⟩
  | p :: as, va, ra => by
    unfold KV at ra
    cases ra with
    | @cons _ q _ qs h t =>
    obtain ⟨h1, h2⟩ := h
    obtain ⟨k, v⟩ := q
    have h1' : (Sum.inl p.1 : Key) = k := h1
    subst h1'
    obtain ⟨tv, rfl⟩ : ∃ t, v = Value.int p.2 t := h2
    have rr : RelO (valV (bs.map kc) (Sum.inl p.1 : Key)) (valueAt vb (Sum.inl p.1 : Key)) := rb.val _
    rw [valV_kc] at rr
    cases e : cnt bs p.1 with
    | none =>
      refine ⟨false, ?_, ?_⟩
      · rw [List.all_cons, e, decide_eq_false (fun z => nomatch z)]
        rfl
      · rw [e] at rr
        cases e2 : valueAt vb (Sum.inl p.1 : Key) with
        | none => exact .miss e2
        | some y =>
          rw [e2] at rr
          exact (show False from rr).elim
    | some c =>
      rw [e] at rr
      obtain ⟨y, hy, ry⟩ := RelO.some_of rr
      obtain ⟨ty, rfl⟩ : ∃ t, y = Value.int c t := ry
      obtain ⟨r, er, hh⟩ := hits_kc (A := A) (s := s) rb t
      refine ⟨_, ?_, .hit hy (PySem.SeqAt.EqAt.int_int p.2 tv c ty) hh⟩
      rw [List.all_cons, e, ← er]
      refine congrArg (· && r) ?_
      refine bool_iff ?_
      rw [beq_iff_eq, decide_eq_true_eq]
      exact ⟨fun z => by rw [z], fun z => (Option.some.inj z).symm⟩
theorem op_eqDk (hu : X.A.units < cLine) : OpR X (compareOp .Eq) (fun x y H Q => ∃ a b as bs, x = .ref a ∧ y = .ref b ∧ Dk H a as ∧ Dk H b bs ∧ Q (.bl (eqP as bs)) H) := by
  intro pins s σ H x y v u Q I rx ry h
  obtain ⟨a, b, as, bs, rfl, rfl, ea, eb, q⟩ := h
  obtain rfl : v = Value.ref a := rx
  obtain rfl : u = Value.ref b := ry
  obtain ⟨_, ya, va, ra, da⟩ := dk_rd I.hok ea
  obtain ⟨_, yb, vb, rb, db⟩ := dk_rd I.hok eb
  obtain ⟨r, er, hh⟩ := hits_kc (A := X.A.in1) (s := s) rb ra
  have l1 : as.length = va.length := by rw [← ra.length, List.length_map]
  have l2 : bs.length = vb.length := by rw [← rb.length, List.length_map]
  exact PySem.W.keq_eq (knd := mixKind X.prog X.w) ya yb da db hu (fun _ => hh) (fin_bl I q (by unfold eqP; rw [er, l1, l2]))
end
theorem eqP_iff {as bs : List (Int × Int)} (ha : (as.map Prod.fst).Nodup) (hb : (bs.map Prod.fst).Nodup) : eqP as bs = true ↔ as.Perm bs := by
  unfold eqP
  rw [Bool.and_eq_true, beq_iff_eq, List.all_eq_true]
  have na : as.Nodup := List.Pairwise.imp (fun {a b} (h : a.1 ≠ b.1) (e : a = b) => h (congrArg Prod.fst e)) (List.pairwise_map.mp (List.nodup_iff_pairwise_ne.mp ha))
  constructor
  · rintro ⟨h1, h2⟩
    have sub : ∀ x ∈ as, x ∈ bs := fun x hx => (cnt_mem hb).mpr (of_decide_eq_true (h2 x hx))
    have : ∀ {xs ys : List (Int × Int)}, xs.Nodup → (∀ x ∈ xs, x ∈ ys) → ys.length ≤ xs.length → xs.Perm ys := by
      intro xs
      induction xs with
      | nil =>
        intro ys _ _ l
        rw [List.eq_nil_of_length_eq_zero (Nat.le_zero.mp l)]
      | cons x r ih =>
        intro ys n s l
        obtain ⟨n1, n2⟩ := List.nodup_cons.mp n
        have m := s x List.mem_cons_self
        have p := List.perm_cons_erase m
        have le := List.length_erase_of_mem m
        have pos := List.length_pos_of_mem m
        refine (List.Perm.cons x (ih n2 (fun y hy => (List.mem_erase_of_ne (fun e : y = x => n1 (by rw [← e]; exact hy))).mpr (s y (List.mem_cons_of_mem x hy))) (by rw [le]; rw [List.length_cons] at l; omega))).trans p.symm
    exact this na sub (by omega)
  · intro p
    exact ⟨p.length_eq, fun x hx => decide_eq_true ((cnt_mem hb).mp (p.mem_iff.mp hx))⟩
def spLotEq (K : PySem.W.Frag) (C : Addr) : Sp := fun vs H Q _ => ∃ a b ps qs, vs = [.ref a, .ref b] ∧ LotAt K C H a ps ∧ LotAt K C H b qs ∧ ∀ H', Ex H H' → Q (.bl (eqP ps qs)) H'
section
variable {X : Cx} {k j : Nat} {C : Addr}
end
theorem isC_gap {ns : List Int} (hp : ns.Pairwise fun a b => b % a = 0) : gap ns = none := by
  refine gap_none fun j hj => ?_
  have h1 : j < ns.length := by omega
  have h2 : j + 1 < ns.length := by omega
  rw [List.getD_eq_getElem?_getD, List.getElem?_eq_getElem h2, List.getD_eq_getElem?_getD, List.getElem?_eq_getElem h1]
  exact List.pairwise_iff_getElem.mp hp j (j + 1) h1 h2 (Nat.lt_succ_self j)
end Ck
namespace Ck
open PySem PySem.Spec PyProof.Rows L2 StX Evl
theorem sw_trueD {kx vx : Expr} {gs : List Comprehension} {scope : Scope} {pos py : Pos} {y : Str} {l : Nat} {env : Env} (hk : env.scope.kind = .function) (hy : env.scope.names.lookup y = some .local) (hl : (py.line == pos.line) = true)
    (ha : (scope.names.any fun (n, k) => n == y && (k == .local || k == .cell)) = false) : swapsWith (.DictComp kx vx gs scope pos) (some (.Name y py)) l env = pure true := by
  have ky : env.kindOf y = some .local := hy
  have hb : env.blockKind = .function := by unfold Env.blockKind; rw [hk]; rfl
  unfold swapsWith
  simp only [hb, ky, ha, Expr.pos, hl]
  rfl
section
variable {X : Cx}
theorem ps_setDc {i : Nat} {y : Str} {py : Pos} {kx vx tg iter : Expr} {ifs : List Expr} {scope : Scope} {own : List (Str × Nat)} {pos spos : Pos} {wi : TI} {g : TG} {tt : TT} {tk tv : TE} (hc : X.calm = true) (hN : X.N.Nodup) (hy : X.N[i]? = some y) (hyl : X.env.scope.names.lookup y = some .local)
    (hsw : swapsWith (.DictComp kx vx [⟨tg, iter, ifs, 0⟩] scope pos) (some (.Name y py)) spos.line X.env = pure true) (hi : PI X tg iter wi) (ok : BlkOk X.N X.env.scope scope own)
    (hg : ∀ (s : Shared) (H : Hp) (C : Addr) (cl : List (Str × Addr)) (fp : List Addr), PG (X.blk s H scope (compEnvC scope cl C X.env) fp) tg g) (ht : ∀ (s : Shared) (H : Hp) (C : Addr) (cl : List (Str × Addr)) (fp : List Addr), PTs (X.blk s H scope (compEnvC scope cl C X.env) fp) ifs tt)
    (hk : ∀ (s : Shared) (H : Hp) (C : Addr) (cl : List (Str × Addr)) (fp : List Addr), PE (X.blk s H scope (compEnvC scope cl C X.env) fp) kx tk) (he : ∀ (s : Shared) (H : Hp) (C : Addr) (cl : List (Str × Addr)) (fp : List Addr), PE (X.blk s H scope (compEnvC scope cl C X.env) fp) vx tv) (hs : ∀ x, foldedSetIterable iter X.env x = pure x := by intro _; rfl) :
    PS X (.Assign [.Name y py] (.DictComp kx vx [⟨tg, iter, ifs, 0⟩] scope pos) spos) (tAsg (tDc wi g tt tk tv (own.map (·.2))) (gName i)) := by
  refine ⟨fun pins s σ H D I h => ?_⟩
  rw [exec_Assign_Name_used _ _ _ _ hsw]
  refine wpAny_bind (wpAny_standAt (wpAny_bind ?_))
  show wpAny _ X.A (do let _ ← comprehension (.DictComp kx vx [⟨tg, iter, ifs, 0⟩] scope pos) scope X.env (firstIterPos [⟨tg, iter, ifs, 0⟩] pos) newDict false (eval iter X.env) (some (assign (.Name y py) X.env))) _ _ s
  have h : tDc wi g tt tk tv (own.map (·.2)) σ H (fun x H1 => gName i x σ H1 D.nx) := h
  refine wpAny_bind (thn (dc_core (Qf := fun _ s' => SP X pins D .next s') hc hN I hi ok hg ht hk he hs h fun L C s' m H' I' q hn f => ?_) fun _ s' hq => wpAny_pure (wpAny_pure hq))
  show wpAny _ _ (assign (.Name y py) X.env (.ref L)) _ _ _
  refine wpAny_assign_Name (store_ok2 (v := V.ref L) I' hN hy (.inl hyl) rfl (fun s2 I2 ⟨a, sb, ha⟩ => ?_) (.inr hyl))
  obtain ⟨f0, f1, f2, f3, f4, f5⟩ := f
  have haC : C ≠ a := by
    rcases ha with z | z
    · rw [z]; exact f1
    · exact fun e => f4 y a z e.symm
  refine ⟨m, hn.sameBut sb haC, fun h3 sb3 => ?_⟩
  exact ⟨_, H', I2.turned (t' := s2.toks) (fun b o hb e => (sb3.2 b hb).trans e) f0 f1 f3 f4 f5, q⟩
end
section
variable {σ : L2.St} {H : Hp} {te : TE} {ps : List (Int × Int)} {i : Nat} {D : Ends} {z : TS}
end
section
variable {K : PySem.W.Frag} {σ : L2.St} {H : Hp} {td ty : TE} {d : Addr} {kvs : List (Key × V)} {s : Int}
end
structure LotNK (K : PySem.W.Frag) (C : Addr) : Prop where
  int : PySem.W.kitOne K (.ref C) (.type "int") = some false
  dict : PySem.W.kitOne K (.type "dict") (.ref C) = some false
  num : PySem.W.kitOne K (.type "int") (.ref C) = some false
  none : PySem.W.kitOne K (.type "NoneType") (.ref C) = some false
end Ck

namespace Ck
open PySem PySem.Spec PyProof.Rows L2 StX Evl
section
variable {K : PySem.W.Frag} {σ : L2.St} {H H' : Hp} {tl te : TE} {l p0 : Addr} {x : V} {k : Int} {ks : List Int} {xs : List V} {D : Ends} {z : TS} {i : Nat}
end
section
variable {K : PySem.W.Frag} {σ : L2.St} {H : Hp} {te : TE} {i j l : Nat} {D : Ends} {z : TS}
theorem q_parP {ta tb : TE} (P : V → V → Hp → Prop) (h : ∀ Q : V → V → Hp → Prop, (∀ x y H1, P x y H1 → Q x y H1) → ta σ H fun x H1 => tb σ H1 fun y H2 => Q x y H2) (k : ∀ x y H1, P x y H1 → z D ((σ.set i (some x)).set j (some y)) H1) : tSeq (tPar i j (tCons ta (tCons tb tNil))) z D σ H :=
  h (fun x y H2 => ∃ x' y', [x, y] = [x', y'] ∧ z D ((σ.set i (some x')).set j (some y')) H2) fun x y H1 p => ⟨x, y, rfl, k x y H1 p⟩
end
section
variable {K : PySem.W.Frag} {σ : L2.St} {H : Hp} {C : Addr} {ta tb tc : TE} {y z : V} {sp : Sp} {E : XK} {Q : VK}
theorem disp1 {a b : Int} (Q : VK) (q : ∀ p H1, Ex H H1 → H1 p = some (.dK (([(a, b)] : List (Int × Int)).map kc)) → Q (.ref p) H1) : tDisp [(tC (.int a), tC (.int b))] σ H Q := fun p hp0 => by
  refine ⟨upd_same, [(a, b)].map kc, rfl, (show 1 ≤ 15 by decide), ?_⟩
  rw [merge_kc (ps := [(a, b)]) (List.nodup_cons.mpr ⟨List.not_mem_nil, List.nodup_nil⟩)]
  exact q p _ (fun x o z => by
    have n := ne_of_none z hp0
    rw [upd_ne n, upd_ne n]
    exact z) upd_same
end
end Ck

namespace Ck
open PySem PySem.Spec PyProof.Rows L2 StX Evl
def Dis (K : PySem.W.Frag) (mg : Str → Option Value) (x : Str) (C : Addr) (qual : Str) (st : Stmt) (pv : Str) : Prop :=
  ∃ (f : Addr), Mk K C f ∧ mg x = some (.ref C) ∧ ∃ (oc : Value) (od : Option Addr) (dV kV doc pm : Value) (an : Option Addr) (cdv ct : Value) (osl : Array (Option Value)),
    K.lookup f = some ⟨oc, od, .func (PySem.W.fnOf "__init__" qual (defArgs st) (defBody st) (defScope st) dV kV doc pm an cdv ct), osl⟩ ∧ PySem.W.codeIn K cdv qual = true ∧
    ∀ us rest : List Value, us.length = (["self"] : List Str).length → bindArgs (PySem.W.fnOf "__init__" qual (defArgs st) (defBody st) (defScope st) dV kV doc pm an cdv ct) ⟨us ++ rest, []⟩ = (newTuple rest >>= fun t => pure ((["self"] : List Str).zip us ++ [(pv, t)]))
section
variable {P : Program} {w : World} {K : PySem.W.Frag} {mg : Str → Option Value} {base : Heap} {k : Nat} {C : Addr} {x qual pv : Str} {st : Stmt} {N : List Str} {sp : Sp}
theorem mks_of (D : Dis K mg x C qual st pv) (S : FnScope N ["self", pv] (defScope st))
    (hbody : ∀ (f : Addr) (cdv : Value) (A : Around) (outer : List Env) (s : Shared) (H : Hp) (vs : List V) (Q : VK) (E : XK), Room k (A.deeper (envOfC qual (defScope st) s.heap.objs.size f cdv)) → sp vs H Q E →
      ∃ t, PSs (cxOf CX0 P w K mg base N qual (defScope st) f cdv A outer s H E).nox (defBody st) t ∧ t { nx := fun _ H' => Q .non H', rt := Q } (start N vs) H) :
    Mkc P w K mg base (k + 1) x C fun vs H Q E => ∃ ws rest, vs = ws ++ rest ∧ ws.length = 1 ∧ rest.length ≤ sizeLine ∧ ∀ p, H p = Option.none → sp (ws ++ [V.ref p]) (upd H p (.tup rest)) Q E := by
  obtain ⟨f, M, hm, oc, od, dV, kV, doc, pm, an, cdv, ct, osl, lk, hcd, hb⟩ := D
  exact ⟨f, M, hm, fn_star (ps := ["self"]) lk hcd S cxUp_none hb fun A outer s H vs Q E hr h => by
    obtain ⟨t, h1, h2⟩ := hbody f cdv A outer s H vs Q E hr h
    exact ⟨t, h1.nox, h2⟩⟩
theorem dis_mk {oc dV kV dc pm cd ct : Value} {od an : Option Addr} {sl : Array (Option Value)} {f : Addr} (gc : mg x = some (.ref C)) (mks : PySem.W.makesIn K C = true) (a : PySem.W.findIn K (.ref C) "__init__" = some (some (.ref f))) (i : PySem.W.isFn K (.ref f) = true) (kc : PySem.W.keepIn K (.ref C) = true)
    (l : K.lookup f = some ⟨oc, od, .func (PySem.W.fnOf "__init__" qual (defArgs st) (defBody st) (defScope st) dV kV dc pm an cd ct), sl⟩) (c : PySem.W.codeIn K cd qual = true)
    (h0 : ∀ a, bindArgs (PySem.W.fnOf "__init__" qual (defArgs st) (defBody st) (defScope st) dV kV dc pm an cd ct) ⟨[a], []⟩ = (newTuple [] >>= fun t => pure [(("self" : Str), a), (pv, t)]))
    (h1 : ∀ a r rs, bindArgs (PySem.W.fnOf "__init__" qual (defArgs st) (defBody st) (defScope st) dV kV dc pm an cd ct) ⟨a :: r :: rs, []⟩ = (newTuple (r :: rs) >>= fun t => pure [(("self" : Str), a), (pv, t)])) : Dis K mg x C qual st pv :=
  ⟨f, ⟨mks, a, i, kc⟩, gc, oc, od, dV, kV, dc, pm, an, cd, ct, sl, l, c, bind_star1 (B := fun us => bindArgs (PySem.W.fnOf "__init__" qual (defArgs st) (defBody st) (defScope st) dV kV dc pm an cd ct) ⟨us, []⟩) h0 h1⟩
end
theorem f2_snoc {α : Type} {R : V → α → Prop} {z : α} : ∀ {as : List α} {vs : List V}, F2 R vs (as ++ [z]) → ∃ ys y, vs = ys ++ [y] ∧ F2 R ys as ∧ R y z
  | [], _, .cons h .nil => ⟨[], _, rfl, .nil, h⟩
  | a :: as, _, .cons h t => by
    obtain ⟨ys, y, rfl, h1, h2⟩ := f2_snoc (as := as) t
    exact ⟨_ :: ys, y, rfl, .cons h h1, h2⟩
theorem nil_or_snoc {α : Type} (l : List α) : l = [] ∨ ∃ as z, l = as ++ [z] := by
  by_cases h : l = []
  · exact .inl h
  · exact .inr ⟨l.dropLast, l.getLast h, (List.dropLast_concat_getLast h).symm⟩
theorem ixN_last (n : Nat) : ixN (n + 1) (-1) = some n := by
  unfold ixN
  rw [if_neg (show ¬ (0 : Int) ≤ -1 by decide), if_pos (by omega)]
  exact congrArg some (by omega)
theorem ix_tupK {X : Cx} {K : PySem.W.Frag} (h : X.K = K) : IxR X (rIxT K) := h ▸ ix_tup
theorem el_lcP1 {K : PySem.W.Frag} {tl te : TE} {σ : L2.St} {H : Hp} {a : Addr} {ts : List V} {ps : List (Int × Int)} {j : Nat} {ws : List Nat} (f : Int × Int → V) (h : Ev tl σ H (.ref a)) (ht : SqT K H a ts) (hf : F2 (RP K H) ts ps) (hz : ps.length ≤ 40000)
    (hw : ∀ x, wipe ((wipe σ ws).set j (some x)) ws = wipe σ ws) (he : ∀ p ∈ ps, ∀ x H1, Ex H H1 → RP K H1 x p → Ev te ((wipe σ ws).set j (some x)) H1 (f p)) :
    EvL (tLc (iTup K tl) (gName j) tYes te ws) σ H (ps.map f) := fun H0 e0 Q q => h H0 e0 _ fun H1 e1 => ⟨a, rfl, ⟨ts, ex_t (e0.trans e1) ht⟩, fun D hD => by
  have e01 := e0.trans e1
  refine lc_it walk_tup (fun i H' => H1 D = none ∧ Ex H1 H' ∧ H' D = some (.lst ((ps.take i).map f))) ⟨hD, Ex.new hD, upd_same⟩ (fun i H' _ p => ex_t (e01.trans p.2.1) ht) ?_ ?_
  · rintro i x H' H2 hi ⟨p1, p2, p3⟩ ⟨rfl, hxi⟩
    obtain ⟨p, hp, hpt⟩ := hf.at hxi
    have m := List.mem_of_getElem? hp
    have st : ps.take (i + 1) = ps.take i ++ [p] := by rw [List.take_add_one, hp]; rfl
    have i12 : i < ps.length := (List.getElem?_eq_some_iff.mp hp).1
    refine ⟨hw _, yes_go (iteT (he p m x H2 (e01.trans p2) (hpt.ex (e01.trans p2)) H2 (Ex.refl _) _ fun H5 e5 => ⟨_, e5 _ _ p3, sz_lt (by rw [List.length_map, List.length_take]; omega), p1, Ex.mut (p2.trans e5) p1, by rw [upd_same, st, List.map_append]; rfl⟩))⟩
  · rintro H' ⟨p1, p2, p3⟩
    rw [hf.len, List.take_of_length_le (Nat.le_refl _)] at p3
    exact q D H' (fresh_back e1 p1) (e1.trans p2) p3⟩
def jn1 (acc : List (Int × Int)) (r : Int × Int) : List (Int × Int) := match acc.getLast? with
  | some l => if l.1 = r.1 then acc.dropLast ++ [(r.1, l.2 + r.2)] else acc ++ [r]
  | none => acc ++ [r]
def jr (rs : List (Int × Int)) : List (Int × Int) := rs.foldl jn1 []
theorem jr_snoc (rs : List (Int × Int)) (r : Int × Int) : jr (rs ++ [r]) = jn1 (jr rs) r := by
  unfold jr
  rw [List.foldl_append]
  rfl
theorem jn1_len (acc : List (Int × Int)) (r : Int × Int) : (jn1 acc r).length ≤ acc.length + 1 := by
  unfold jn1
  split
  · next l e =>
    split
    · rw [List.length_append, List.length_dropLast]
      show _ + 1 ≤ _
      omega
    · rw [List.length_append]
      exact Nat.le_refl _
  · rw [List.length_append]
    exact Nat.le_refl _
theorem jr_len (rs : List (Int × Int)) : (jr rs).length ≤ rs.length := by
  have : ∀ (rs acc : List (Int × Int)), (rs.foldl jn1 acc).length ≤ acc.length + rs.length := fun rs => by
    induction rs with
    | nil => exact fun acc => Nat.le_refl _
    | cons r t ih =>
      intro acc
      have := ih (jn1 acc r)
      have := jn1_len acc r
      rw [List.foldl_cons, List.length_cons]
      omega
  have := this rs []
  rw [List.length_nil] at this
  unfold jr
  omega
theorem jr_all {P : Int × Int → Prop} (add : ∀ a b c, P (a, b) → P (a, c) → P (a, b + c)) {rs : List (Int × Int)} (h : ∀ r ∈ rs, P r) : ∀ r ∈ jr rs, P r := by
  have : ∀ (rs acc : List (Int × Int)), (∀ r ∈ rs, P r) → (∀ r ∈ acc, P r) → ∀ r ∈ rs.foldl jn1 acc, P r := fun rs => by
    induction rs with
    | nil => exact fun acc _ h => h
    | cons r t ih =>
      intro acc h1 h2
      refine ih (jn1 acc r) (fun x hx => h1 x (List.mem_cons_of_mem r hx)) fun x hx => ?_
      have hr := h1 r List.mem_cons_self
      unfold jn1 at hx
      split at hx
      · next l e =>
        have ml : l ∈ acc := List.mem_of_getLast? e
        split at hx
        · next el =>
          rcases List.mem_append.mp hx with m | m
          · exact h2 x (List.dropLast_subset acc m)
          · rw [List.mem_singleton.mp m]
            have pl := h2 l ml
            exact add r.1 l.2 r.2 (by rw [← el]; exact pl) hr
        · rcases List.mem_append.mp hx with m | m
          · exact h2 x m
          · rw [List.mem_singleton.mp m]
            exact hr
      · rcases List.mem_append.mp hx with m | m
        · exact h2 x m
        · rw [List.mem_singleton.mp m]
          exact hr
  exact this rs [] h fun r hr => nomatch hr
theorem jr_sum {g : Int × Int → Int} (add : ∀ a b c, g (a, b + c) = g (a, b) + g (a, c)) (rs : List (Int × Int)) : ((jr rs).map g).sum = (rs.map g).sum := by
  have : ∀ (rs acc : List (Int × Int)), ((rs.foldl jn1 acc).map g).sum = (acc.map g).sum + (rs.map g).sum := fun rs => by
    induction rs with
    | nil => exact fun acc => (Int.add_zero _).symm
    | cons r t ih =>
      intro acc
      rw [List.foldl_cons, ih, sum_cons2]
      have e : ((jn1 acc r).map g).sum = (acc.map g).sum + g r := by
        unfold jn1
        split
        · next l e =>
          obtain ⟨ys, rfl⟩ := List.getLast?_eq_some_iff.mp e
          split
          · next el =>
            rw [List.dropLast_concat, List.map_append, List.map_append, List.sum_append, List.sum_append]
            show _ + (g (r.1, l.2 + r.2) + 0) = _ + (g l + 0) + g r
            rw [add, ← el]
            show _ + (g l + g (l.1, r.2) + 0) = _
            rw [show (l.1, r.2) = r by rw [el]]
            omega
          · rw [List.map_append, List.sum_append]
            show _ + (g r + 0) = _
            omega
        · rw [List.map_append, List.sum_append]
          show _ + (g r + 0) = _
          omega
      rw [e]
      omega
  have := this rs []
  rw [List.map_nil, List.sum_nil, Int.zero_add] at this
  exact this
theorem jr_self : ∀ {rs : List (Int × Int)}, (∀ i a b, rs[i]? = some a → rs[i + 1]? = some b → a.1 ≠ b.1) → jr rs = rs := by
  have : ∀ (n : Nat) (rs : List (Int × Int)), rs.length = n → (∀ i a b, rs[i]? = some a → rs[i + 1]? = some b → a.1 ≠ b.1) → jr rs = rs := fun n => by
    induction n with
    | zero =>
      intro rs h _
      rw [List.eq_nil_of_length_eq_zero h]
      rfl
    | succ n ih =>
      intro rs h hj
      obtain ⟨ys, r, rfl⟩ : ∃ ys r, rs = ys ++ [r] := by
        refine ⟨rs.dropLast, rs.getLast (fun e => by rw [e] at h; cases h), (List.dropLast_concat_getLast _).symm⟩
      rw [List.length_append] at h
      have ln : ys.length = n := Nat.succ.inj h
      rw [jr_snoc, ih ys ln fun i a b h1 h2 => hj i a b (by rw [List.getElem?_append_left (List.getElem?_eq_some_iff.mp h1).1]; exact h1) (by rw [List.getElem?_append_left (List.getElem?_eq_some_iff.mp h2).1]; exact h2)]
      unfold jn1
      split
      · next l e =>
        obtain ⟨zs, rfl⟩ := List.getLast?_eq_some_iff.mp e
        rw [if_neg]
        refine hj zs.length l r ?_ ?_
        · rw [List.append_assoc, List.getElem?_append_right (Nat.le_refl _), Nat.sub_self]
          rfl
        · rw [List.getElem?_append_right (by rw [List.length_append]; exact Nat.le_refl _), List.length_append]
          show [r][zs.length + 1 - (zs.length + 1)]? = _
          rw [Nat.sub_self]
          rfl
      · rfl
  exact fun {rs} h => this rs.length rs rfl h
def unt (rs : List (Int × Int)) (s : Int) : Int := (rs.map fun r => r.2 * (r.1 / s)).sum
theorem unt_jr (rs : List (Int × Int)) (s : Int) : unt (jr rs) s = unt rs s := jr_sum (g := fun r => r.2 * (r.1 / s)) (fun a b c => Int.add_mul b c (a / s)) rs
def stoF (t : Addr) : List (Str × V) := putF "_runs" (.ref t) []
structure StoAt (K : PySem.W.Frag) (C : Addr) (H : Hp) (a : Addr) (rs : List (Int × Int)) : Prop where
  ex : ∃ dx t ts, H a = some (.ins C dx (stoF t)) ∧ SqT K H t ts ∧ F2 (RP K H) ts rs
theorem StoAt.up {K : PySem.W.Frag} {C a : Addr} {H H' : Hp} {rs : List (Int × Int)} (h : StoAt K C H a rs) (e : Ex H H') : StoAt K C H' a rs := by
  obtain ⟨dx, t, ts, h1, h2, h3⟩ := h.ex
  exact ⟨dx, t, ts, e _ _ h1, ex_t e h2, h3.imp fun x b r => r.ex e⟩
theorem sto_runs (t : Addr) : (stoF t).lookup ("_runs" : Str) = some (.ref t) := by
  unfold stoF
  rw [lookup_putF, if_pos rfl]
structure StoreT (K : PySem.W.Frag) (mg : Str → Option Value) (CS : Addr) : Prop where
  k : Klass K mg "Store" CS
  n1 : NoAttr K CS "_runs"
structure Rns (rs : List (Int × Int)) : Prop where
  ok : ∀ r ∈ rs, sizB r.1 = true ∧ sizB r.2 = true
  ln : rs.length ≤ 1000
  jl : (jr rs).length ≤ 40
def spStoI (K : PySem.W.Frag) (C : Addr) : Sp := fun vs H Q _ => ∃ (x dx : Addr) (xs : List V) (rs : List (Int × Int)) (H0 : Hp), vs = .ref x :: xs ∧ Ex H0 H ∧ H0 x = none ∧ H x = some (.ins C dx []) ∧ F2 (RP K H0) xs rs ∧ Rns rs ∧ ∀ H', Ex H0 H' → StoAt K C H' x (jr rs) → Q .non H'
def spStoB (K : PySem.W.Frag) (C : Addr) : Sp := fun vs H Q _ => ∃ (x dx p : Addr) (xs : List V) (rs : List (Int × Int)) (H0 : Hp), vs = [.ref x, .ref p] ∧ Ex H0 H ∧ H0 x = none ∧ H x = some (.ins C dx []) ∧ SqT K H p xs ∧ F2 (RP K H0) xs rs ∧ Rns rs ∧ ∀ H', Ex H0 H' → StoAt K C H' x (jr rs) → Q .non H'
def spIsRun (K : PySem.W.Frag) : Sp := fun vs H Q _ => ∃ t a b, vs = [.ref t] ∧ SqT K H t [.int a, .int b] ∧ ∀ H', Ex H H' → Q (.bl (sizB a && sizB b)) H'
def spJoinR (K : PySem.W.Frag) : Sp := fun vs H Q _ => ∃ t xs rs, vs = [.ref t] ∧ SqT K H t xs ∧ F2 (RP K H) xs rs ∧ rs.length ≤ 2000 ∧ ∀ u ys H', Ex H H' → SqT K H' u ys → F2 (RP K H') ys (jr rs) → Q (.ref u) H'
def spUnitsOf (K : PySem.W.Frag) : Sp := fun vs H Q _ => ∃ t s xs rs, vs = [.ref t, .int s] ∧ SqT K H t xs ∧ F2 (RP K H) xs rs ∧ rs.length ≤ 2000 ∧ (∀ r ∈ rs, 0 ≤ r.1 ∧ r.1.natAbs < 10 ^ 200 ∧ r.2.natAbs < 10 ^ 200) ∧ 0 < s ∧ s.natAbs < 10 ^ 200 ∧ ∀ H', Ex H H' → Q (.int (unt rs s)) H'
def spIsSto (K : PySem.W.Frag) (C : Addr) : Sp := fun vs H Q _ => ∃ a rs, vs = [.ref a] ∧ StoAt K C H a rs ∧ ∀ H', Ex H H' → Q .non H'
structure StoOk (rs : List (Int × Int)) : Prop where
  ok : ∀ r ∈ rs, sizB r.1 = true ∧ 0 < r.2 ∧ r.2.natAbs < 10 ^ 200
  ln : rs.length ≤ 40
def spUnits (K : PySem.W.Frag) (C : Addr) : Sp := fun vs H Q _ => ∃ a s rs, vs = [.ref a, .int s] ∧ StoAt K C H a rs ∧ StoOk rs ∧ sizB s = true ∧ ∀ H', Ex H H' → Q (.int (unt rs s)) H'
theorem sto_mk {P : Program} {w : World} {K : PySem.W.Frag} {mg : Str → Option Value} {base : Heap} {k : Nat} {x : Str} {C : Addr}
    (h : Mkc P w K mg base k x C fun vs H Q E => ∃ ws rest, vs = ws ++ rest ∧ ws.length = 1 ∧ rest.length ≤ sizeLine ∧ ∀ p, H p = Option.none → spStoB K C (ws ++ [V.ref p]) (upd H p (.tup rest)) Q E) : Mkc P w K mg base k x C (spStoI K C) := by
  obtain ⟨f, M, hm, F⟩ := h
  refine ⟨f, M, hm, F.imp ?_⟩
  rintro vs H Q E ⟨x, dx, xs, rs, H0, rfl, e0, x0, hx, hf, hr, q⟩
  refine ⟨[.ref x], xs, rfl, rfl, ?_, fun p np => ?_⟩
  · rw [hf.len]
    exact Nat.le_trans hr.ln (show 1000 ≤ sizeLine by decide)
  · exact ⟨x, dx, p, xs, rs, H0, rfl, e0.trans (Evl.Ex.new np), x0, (Evl.Ex.new np) _ _ hx, SqT.of upd_same, hf, hr, q⟩
section
variable {X : Cx} {k j : Nat} {C : Addr} {x : Str} {sp : Sp} {e : Expr} {te : TE} {p sp_ pos : Pos}
end
def prD (p : Int × Int) : PyData := .tuple [.int p.1, .int p.2]
def rnD (rs : List (Int × Int)) : PyData := .tuple (rs.map prD)
theorem lay_prs : ∀ rs : List (Int × Int), PyData.canLayAll0 (rs.map prD) = true ∧ PyData.depthAll (rs.map prD) ≤ 1
  | [] => ⟨rfl, Nat.zero_le _⟩
  | x :: r => by
    obtain ⟨a, b⟩ := lay_prs r
    refine ⟨by rw [List.map_cons]; simp only [PyData.canLayAll0, a]; rfl, ?_⟩
    rw [List.map_cons]
    simp only [PyData.depthAll]
    exact Nat.max_le.mpr ⟨(show PyData.depth (.tuple ([x.1, x.2].map PyData.int)) ≤ 1 by simp only [PyData.depth, (lay_ints [x.1, x.2]).2]; exact Nat.le_refl _), b⟩
theorem shaped_rns (rs : List (Int × Int)) : SeqAt.shaped (rnD rs) = true := by
  obtain ⟨a, b⟩ := lay_prs rs
  unfold SeqAt.shaped rnD
  simp only [PyData.canLay0, PyData.depth, a]
  exact decide_eq_true (by omega)
theorem eqv_prs : ∀ rs ss : List (Int × Int), PyData.eqvAll (rs.map prD) (ss.map prD) = decide (rs = ss)
  | [], [] => by simp [PyData.eqvAll]
  | [], _ :: _ => by simp [PyData.eqvAll]
  | _ :: _, [] => by simp [PyData.eqvAll]
  | m :: ms, n :: ns => by
    have e : PyData.eqv (prD m) (prD n) = decide (m = n) := by
      have z := eqv_tups [m.1, m.2] [n.1, n.2]
      unfold prD
      simp only [PyData.eqv]
      refine z.trans (decide_eq_decide.mpr ⟨fun h => ?_, fun h => by rw [h]⟩)
      have h1 := (List.cons.inj h).1
      have h2 := (List.cons.inj (List.cons.inj h).2).1
      exact Prod.ext h1 h2
    simp only [List.map_cons, PyData.eqvAll, e, eqv_prs ms ns]
    by_cases h : m = n
    · subst h; simp
    · rw [decide_eq_false h, decide_eq_false (show ¬ (m :: ms = n :: ns) from fun z => h (List.cons.inj z).1)]; rfl
theorem eqv_rns (rs ss : List (Int × Int)) : PyData.eqv (rnD rs) (rnD ss) = decide (rs = ss) := by
  unfold rnD
  simp only [PyData.eqv, eqv_prs]
theorem dpa_rns {K : PySem.W.Frag} {H : Hp} : ∀ {ts : List V} {rs : List (Int × Int)}, F2 (RP K H) ts rs → DpAll K H ts (rs.map prD)
  | _, _, .nil => .nil
  | _, _, .cons ⟨t, e, h⟩ r => by
    subst e
    exact .cons (.tup h (.cons (.int _) (.cons (.int _) .nil))) (dpa_rns r)
end Ck

namespace Ck
open PySem PySem.Spec PyProof.Rows L2 StX Evl
section
variable {K : PySem.W.Frag} {σ : L2.St} {H H' : Hp} {ta tb te tl : TE} {tt : TT} {p a b : Addr} {xs ys : List V} {ms ns : List Int} {j1 j2 : Nat} {ws : List Nat} {ps : List (Int × Int)}
end
section
variable {K : PySem.W.Frag} {C : Addr} {σ : L2.St} {H : Hp} {tl te ti : TE} {a : Addr} {s : Int} {ns : List Int} {rs : List (Int × Int)} {j : Nat} {ws : List Nat}
theorem el_lcY (f : Int → V) (h : Etu K tl σ H (ns.map V.int)) (hz : ns.length ≤ 40000) (hw : ∀ x, wipe ((wipe σ ws).set j (some x)) ws = wipe σ ws)
    (he : ∀ n ∈ ns, ∀ H1, Ex H H1 → Ev te ((wipe σ ws).set j (some (.int n))) H1 (f n)) : EvL (tLc (iTup K tl) (gName j) tYes te ws) σ H (ns.map f) := by
  have z := el_lcN (K := K) (te := te) (tt := tYes) (fun _ => true) f h hz hw (fun n _ H1 _ H2 _ Q q => q H2 (Ex.refl H2)) (fun n hn _ H1 e => he n hn H1 e)
  rw [List.filter_eq_self.mpr fun _ _ => rfl] at z
  exact z
theorem sto_units (t : Addr) : (stoF t).lookup ("units" : Str) = none := by
  unfold stoF
  rw [lookup_putF, if_neg (by decide +kernel)]
  rfl
theorem ev_units (h : Ev te σ H (.ref a)) (hb : Ev ti σ H (.int s)) (hs : StoAt K C H a rs) (ho : StoOk rs) (hz : sizB s = true) : Ev (tMeth C "units" (spUnits K C) [] E0 te (tCons ti tNil)) σ H (.int (unt rs s)) := fun H1 e Q q => h H1 e _ fun H2 e2 => by
  obtain ⟨dx, t, ts, h1, _⟩ := (hs.up (e.trans e2)).ex
  exact ⟨a, dx, _, rfl, h1, sto_units t, hb H2 (e.trans e2) _ fun H3 e3 => ⟨a, s, rs, rfl, hs.up ((e.trans e2).trans e3), ho, hz, fun H' e4 => q H' ((e2.trans e3).trans e4)⟩⟩
end
end Ck

namespace CZ
open PySem
open PySem.Sem (wp)
open RZ
section
variable {prog : Program} {w : World} {A : Around} {E : Value → Shared → Prop} {s : Shared} {z TI TO T i1 i2 l1 l2 : Addr} {f : Bool} {oT : Obj} {k1 k2 : Nat} {xs ys : Array Value} {x y : Value}
end
section
variable {prog : Program} {w : World} {A : Around} {s : Shared} {R : Result → Shared → Prop} {z TI TO i1 i2 l1 l2 S : Addr} {xs ys : Array Value} {n N : Nat}
end
section
variable {prog : Program} {w : World} {A : Around} {E : Value → Shared → Prop} {s : Shared} {z TI TO i1 i2 l1 l2 : Addr} {xs ys : Array Value} {n : Nat}
end
end CZ
namespace Ck
open PySem PySem.Spec PyProof.Rows L2 StX RZ
end Ck

namespace Ck
open PySem PySem.Spec PyProof.Rows L2 Evl
structure Pws (ns : List Int) : Prop where
  pw : ns.Pairwise fun a b => a < b ∧ a ∣ b
  pos : ∀ n ∈ ns, 0 < n
theorem unt_cons (r : Int × Int) (rs : List (Int × Int)) (s : Int) : unt (r :: rs) s = r.2 * (r.1 / s) + unt rs s := by
  unfold unt
  rw [List.map_cons, List.sum_cons]
theorem unt_step {a b : Int} (ha : 0 < a) (hb : 0 < b) (d : a ∣ b) : ∀ {rs : List (Int × Int)}, (∀ r ∈ rs, 0 ≤ r.1 ∧ 0 ≤ r.2) → unt rs b * (b / a) ≤ unt rs a
  | [], _ => by unfold unt; rw [List.map_nil, List.map_nil, List.sum_nil, Int.zero_mul]; exact Int.le_refl 0
  | r :: rs, h => by
    have ih := unt_step ha hb d (rs := rs) fun x hx => h x (List.mem_cons_of_mem _ hx)
    obtain ⟨r1, r2⟩ := h r List.mem_cons_self
    rw [unt_cons, unt_cons, Int.add_mul]
    refine Int.add_le_add ?_ ih
    rw [Int.mul_assoc]
    refine Int.mul_le_mul_of_nonneg_left ?_ r2
    refine (Int.le_ediv_iff_mul_le ha).mpr ?_
    rw [Int.mul_assoc, Int.ediv_mul_cancel d]
    exact Int.ediv_mul_le _ (by omega)
theorem unt_nn {s : Int} (hs : 0 < s) : ∀ {rs : List (Int × Int)}, (∀ r ∈ rs, 0 ≤ r.1 ∧ 0 ≤ r.2) → 0 ≤ unt rs s
  | [], _ => Int.le_refl 0
  | r :: rs, h => by
    have ih := unt_nn hs (rs := rs) fun x hx => h x (List.mem_cons_of_mem _ hx)
    obtain ⟨r1, r2⟩ := h r List.mem_cons_self
    rw [unt_cons]
    have := Int.mul_nonneg r2 (Int.ediv_nonneg r1 (Int.le_of_lt hs))
    omega
theorem all_same {α : Type} {p q : α → Bool} : ∀ {l : List α}, (∀ x ∈ l, p x = q x) → l.all p = l.all q
  | [], _ => rfl
  | x :: l, h => by rw [List.all_cons, List.all_cons, h x List.mem_cons_self, all_same fun y hy => h y (List.mem_cons_of_mem _ hy)]
section
variable {K : PySem.W.Frag} {d : Addr} {σ : L2.St} {H : Hp} {te ta tb : TE} {P R S : Int → Prop} {i : Nat} {n t : Int}
def Ei (d : Addr) (P : Int → Prop) (te : TE) (σ : L2.St) (H : Hp) : Prop := Ek d (fun v => ∃ y, v = .int y ∧ P y) te σ H
theorem Ei.mono {P R : Int → Prop} (h : Ei d P te σ H) (k : ∀ y, P y → R y) : Ei d R te σ H := fun H1 e Q q => h H1 e Q fun v H2 e2 ⟨y, r, p⟩ => q v H2 e2 ⟨y, r, k y p⟩
theorem ei_c (h : P n) : Ei d P (tC (.int n)) σ H := fun H1 e Q q => q _ H1 (Kd.refl e.2) ⟨n, rfl, h⟩
theorem ei_v (hv : σ[i]? = some (some (.int n))) (h : P n) : Ei d P (tVar i) σ H := fun H1 e Q q => ⟨_, hv, q _ H1 (Kd.refl e.2) ⟨n, rfl, h⟩⟩
theorem ei_rollV (hv : σ[i]? = some (some (.ref d))) {B : Int} (h : Ei d (fun t => 0 < t ∧ t ≤ B) te σ H) (hB : B < 1073741824) : Ei d (fun y => 0 ≤ y ∧ y < B) (tCall spRoll [] E0 (tCons (tVar i) (tCons te tNil))) σ H := fun H1 e Q q =>
  ⟨_, hv, h H1 e _ fun v H2 e2 ⟨t, r, t0, t1⟩ => by
    subst r
    exact ⟨d, t, rfl, t0, by omega, e2.2, fun y H3 y0 y1 hd k => q _ H3 (e2.trans (Kd.but hd k)) ⟨y, rfl, y0, by omega⟩⟩⟩
theorem ei_roll (hv : σ[i]? = some (some (.ref d))) (t0 : 0 < t) (t1 : t < 1073741824) : Ei d (fun y => 0 ≤ y ∧ y < t) (tCall spRoll [] E0 (tCons (tVar i) (tCons (tC (.int t)) tNil))) σ H := ei_rollV hv (ei_c ⟨t0, Int.le_refl t⟩) t1
theorem ei_0 {g : Int → Int → Int} (ha : Ei d P ta σ H) (hb : Ei d R tb σ H) (k : ∀ a b, P a → R b → S (g a b)) : Ei d S (tOp (rI0 fun i j => .int (g i j)) ta tb) σ H := fun H1 e Q q => ha H1 e _ fun v H2 e2 ⟨a, r, pa⟩ => hb H2 (e.trans e2) _ fun w H3 e3 ⟨b, r2, pb⟩ => by
  subst r r2
  exact ⟨a, b, rfl, rfl, q _ H3 (e2.trans e3) ⟨_, rfl, k a b pa pb⟩⟩
theorem ei_C {C : Int → Int → Prop} {g : Int → Int → Int} (ha : Ei d P ta σ H) (hb : Ei d R tb σ H) (c : ∀ a b, P a → R b → C a b) (k : ∀ a b, P a → R b → S (g a b)) : Ei d S (tOp (rI C fun i j => .int (g i j)) ta tb) σ H := fun H1 e Q q => ha H1 e _ fun v H2 e2 ⟨a, r, pa⟩ => hb H2 (e.trans e2) _ fun w H3 e3 ⟨b, r2, pb⟩ => by
  subst r r2
  exact ⟨a, b, rfl, rfl, c a b pa pb, q _ H3 (e2.trans e3) ⟨_, rfl, k a b pa pb⟩⟩
def spPickS (K : PySem.W.Frag) : Sp := fun vs H Q _ => ∃ (d p : Addr) (xs : List V), vs = [.ref d, .ref p] ∧ Dice H d ∧ (SqL K H p xs ∨ SqT K H p xs) ∧ p ≠ d ∧ xs ≠ [] ∧ xs.length < 1073741824 ∧
  ∀ x ∈ xs, ∀ H', Dice H' d → But d H H' → Q x H'
theorem ei_pick (hv : σ[i]? = some (some (.ref d))) {ns : List Int} (h : ∀ H1, Kd d H H1 → ∀ Q : VK, (∀ g H2, Kd d H1 H2 → g ≠ d → (SqL K H2 g (ns.map V.int) ∨ SqT K H2 g (ns.map V.int)) → Q (.ref g) H2) → te σ H1 Q) (h0 : ns ≠ []) (hl : ns.length < 1073741824) : Ei d (fun y => y ∈ ns) (tCall (spPickS K) [] E0 (tCons (tVar i) (tCons te tNil))) σ H := fun H1 e Q q =>
  ⟨_, hv, h H1 e _ fun g H2 e2 gd hg => ⟨d, g, _, rfl, e2.2, hg, gd, by simpa using h0, by rw [List.length_map]; exact hl, fun x hx H3 hd k => by
    obtain ⟨y, hy, rfl⟩ := List.mem_map.mp hx
    exact q _ H3 (e2.trans (Kd.but hd k)) ⟨y, rfl, hy⟩⟩⟩
theorem pick_tup {p : Addr} {ns : List Int} (hv : σ[i]? = some (some (.ref p))) (hp : SqT K H p (ns.map V.int)) (pd : p ≠ d) : ∀ H1, Kd d H H1 → ∀ Q : VK, (∀ g H2, Kd d H1 H2 → g ≠ d → (SqL K H2 g (ns.map V.int) ∨ SqT K H2 g (ns.map V.int)) → Q (.ref g) H2) → (tVar i) σ H1 Q := fun H1 e Q q => ⟨_, hv, q p H1 (Kd.refl e.2) pd (.inr (e.1.sqT pd hp))⟩
theorem pick_lst {tr : TA} {xs : List Int} (h : ∀ H1, Kd d H H1 → EvA tr σ H1 (xs.map V.int)) (hl : xs.length ≤ 1000) : ∀ H1, Kd d H H1 → ∀ Q : VK, (∀ g H2, Kd d H1 H2 → g ≠ d → (SqL K H2 g (xs.map V.int) ∨ SqT K H2 g (xs.map V.int)) → Q (.ref g) H2) → (tLst tr) σ H1 Q := fun H1 e Q q =>
  h H1 e H1 (Ex.refl H1) _ fun H2 e2 => ⟨by rw [List.length_map]; exact Nat.le_trans hl (show 1000 ≤ sizeLine by decide), fun g ng => q g _ ((Kd.ex e.2 e2).to (Ex.new ng)) ((e.2.ex e2).ne ng) (.inl (SqL.of upd_same))⟩
end
structure GrR (rs : List (Int × Int)) : Prop where
  ln : rs.length ≤ 5
  ok : ∀ r ∈ rs, (0 < r.1 ∧ r.1 < 10 ^ 28) ∧ 0 < r.2 ∧ r.2 < 10 ^ 32
end Ck

namespace L2
open PySem PySem.Spec PyProof.Rows
end L2

namespace Ck
open PySem PySem.Spec PyProof.Rows L2 StX Evl
section
variable {K : PySem.W.Frag} {C : Addr} {σ : L2.St} {H : Hp} {ta tb te : TE} {xs : List V}
theorem el_copy {l : Addr} (h : Ev te σ H (.ref l)) (hl : SqL K H l xs) : EvL (tCB (fun xs H Q => ∃ p ys, xs = [V.ref p] ∧ (SqL K H p ys ∨ SqT K H p ys) ∧ ∀ l, H l = none → Q (.ref l) (upd H l (.lst ys))) (tCons te tNil)) σ H xs := fun H1 e Q q =>
  h H1 e _ fun H2 e2 => ⟨l, xs, rfl, .inl (ex_l (e.trans e2) hl), fun p hp => q p _ (fresh_back e2 hp) (e2.trans (Ex.new hp)) upd_same⟩
theorem el_rep (h : EvL ta σ H xs) {n : Int} (hb : Ev tb σ H (.int n)) (h0 : 0 ≤ n) (h1 : n ≤ 100) (hl : xs.length ≤ 100) : EvL (tOp rRep ta tb) σ H (List.replicate n.toNat xs).flatten := fun H1 e Q q =>
  h H1 e _ fun p H2 n2 e2 hp => hb H2 (e.trans e2) _ fun H3 e3 => ⟨p, n, xs, rfl, rfl, e3 _ _ hp, by omega, by omega, Nat.le_trans (Nat.mul_le_mul hl (show n.toNat ≤ 100 by omega)) (show 100 * 100 ≤ sizeLine by decide), fun t nt => q t _ (fresh_back (e2.trans e3) nt) ((e2.trans e3).trans (Ex.new nt)) upd_same⟩
end
theorem shaped_lrs (rs : List (Int × Int)) : SeqAt.shaped (.list (rs.map prD)) = true := by
  obtain ⟨a, b⟩ := lay_prs rs
  unfold SeqAt.shaped
  simp only [PyData.canLay0, PyData.depth, a]
  exact decide_eq_true (by omega)
theorem mk_stoR {K : PySem.W.Frag} {C : Addr} {σ : L2.St} {H : Hp} {tr : TA} {vs : List V} {rs : List (Int × Int)} {Q : VK} (h : EvA tr σ H vs) (hf : F2 (RP K H) vs rs) (hr : Rns rs) (q : ∀ a H', Ex H H' → StoAt K C H' a (jr rs) → Q (.ref a) H') : tMakeR C (spStoI K C) E0 tr σ H Q :=
  h H (Ex.refl H) _ fun H1 e1 => fun x dx nx nd ne => by
    have n2 : (upd H1 dx (.own x)) x = none := by rw [upd_ne ne.symm]; exact nx
    exact ⟨x, dx, vs, rs, H1, rfl, (Ex.new nd).trans (Ex.new n2), nx, upd_same, hf.imp fun y b r => r.ex e1, hr, fun H' e' hst => ⟨rfl, q x H' (e1.trans e') hst⟩⟩
end Ck

namespace Ck
open PySem PySem.Spec PyProof.Rows L2 StX Evl
section
variable {K : PySem.W.Frag} {σ : L2.St} {H : Hp} {ta tb te tl : TE} {tt : TT} {tr : TA} {l : Addr} {ts : List V} {ps : List (Int × Int)} {j j1 j2 : Nat} {ws : List Nat}
theorem el_lcPV (f : Int × Int → V) (h : Ev tl σ H (.ref l)) (hl : SqL K H l ts) (hf : F2 (RP K H) ts ps) (hz : ps.length ≤ 40000)
    (hw : ∀ x y, wipe (((wipe σ ws).set j1 (some x)).set j2 (some y)) ws = wipe σ ws) (he : ∀ p ∈ ps, ∀ H1, Ex H H1 → Ev te (((wipe σ ws).set j1 (some (.int p.1))).set j2 (some (.int p.2))) H1 (f p)) :
    EvL (tLc (iList K tl) (gTup K 2 (gCons (gName j1) (gCons (gName j2) gNil))) tYes te ws) σ H (ps.map f) := fun H0 e0 Q q => h H0 e0 _ fun H1 e1 => ⟨l, rfl, ⟨ts, ex_l (e0.trans e1) hl⟩, fun D hD => by
  have e01 := e0.trans e1
  refine lc_it walk_list (fun i H' => H1 D = none ∧ Ex H1 H' ∧ H' D = some (.lst ((ps.take i).map f))) ⟨hD, Ex.new hD, upd_same⟩ (fun i H' _ p => ex_l (e01.trans p.2.1) hl) ?_ ?_
  · rintro i x H' H2 hi ⟨p1, p2, p3⟩ ⟨rfl, hxi⟩
    obtain ⟨p, hp, t, rfl, hpt⟩ := hf.at hxi
    have m := List.mem_of_getElem? hp
    have st : ps.take (i + 1) = ps.take i ++ [p] := by rw [List.take_add_one, hp]; rfl
    have i12 : i < ps.length := (List.getElem?_eq_some_iff.mp hp).1
    refine ⟨t, _, rfl, ex_t (e01.trans p2) hpt, rfl, _, _, rfl, _, _, rfl, rfl, hw _ _, yes_go (iteT (he p m H2 (e01.trans p2) H2 (Ex.refl _) _ fun H5 e5 => ⟨_, e5 _ _ p3, sz_lt (by rw [List.length_map, List.length_take]; omega), p1, Ex.mut (p2.trans e5) p1, by rw [upd_same, st, List.map_append]; rfl⟩))⟩
  · rintro H' ⟨p1, p2, p3⟩
    rw [hf.len, List.take_of_length_le (Nat.le_refl _)] at p3
    exact q D H' (fresh_back e1 p1) (e1.trans p2) p3⟩
end
def spSpace (K : PySem.W.Frag) : Sp := fun vs H Q _ => ∃ (l : Addr) (s : Int) (ts : List V) (rs : List (Int × Int)), vs = [.ref l, .int s] ∧ SqL K H l ts ∧ F2 (RP K H) ts rs ∧ rs.length ≤ 1000 ∧ (∀ r ∈ rs, 0 ≤ r.1 ∧ r.1.natAbs < 10 ^ 200 ∧ r.2.natAbs < 10 ^ 200) ∧ 0 < s ∧ s.natAbs < 10 ^ 200 ∧ ∀ H', Ex H H' → Q (.int (unt rs s)) H'
theorem natAbs_div {a b : Int} (ha : 0 ≤ a) (hb : 0 < b) : (a / b).natAbs ≤ a.natAbs := by
  obtain ⟨n, hn⟩ := Int.eq_ofNat_of_zero_le ha
  obtain ⟨m, hm⟩ := Int.eq_ofNat_of_zero_le (show 0 ≤ b by omega)
  have e : (a / b).natAbs = a.natAbs / b.natAbs := by rw [hn, hm]; rfl
  rw [e]
  exact Nat.div_le_self _ _
theorem fil_nil {α : Type} {c : α → Bool} : ∀ (l : List α), decide (l.filter c = []) = l.all fun x => !c x
  | [] => rfl
  | x :: l => by
    have ih := fil_nil (c := c) l
    rw [List.filter_cons, List.all_cons, ← ih]
    cases h : c x with
    | true => rfl
    | false => rfl
end Ck

namespace Ck
open PySem PySem.Spec PyProof.Rows L2 StX Evl
theorem chd_isc {ns : List Int} {L : Int} (h : Chd ns L) (hl : ns.length ≤ 6) (hL : L < 10 ^ 27) : IsC ns := by
  have big : (10 : Int) ^ 27 < 10 ^ 200 := by decide +kernel
  refine ⟨fun e => ?_, by omega, fun n hn => ?_, h.pw.imp fun h => ⟨h.1, Int.emod_eq_zero_of_dvd h.2⟩⟩
  · obtain ⟨r, e2⟩ := h.last
    rw [e] at e2
    exact nomatch (List.append_eq_nil_iff.mp e2.symm).2
  · obtain ⟨a, b, _⟩ := h.pos n hn
    exact ⟨a, by omega⟩
theorem gr_rns {rs : List (Int × Int)} (h : GrR rs) : Rns rs := by
  have big : (10 : Int) ^ 28 < 10 ^ 200 := by decide +kernel
  have big2 : (10 : Int) ^ 32 < 10 ^ 200 := by decide +kernel
  have ln := h.ln
  refine ⟨fun r hr => ?_, by omega, by have := jr_len rs; omega⟩
  obtain ⟨⟨a, b⟩, c, d⟩ := h.ok r hr
  exact ⟨siz_of a (by omega), siz_of c (by omega)⟩
theorem sum_bound {rs : List (Int × Int)} {g : Int × Int → Int} {B : Int} (h : ∀ r ∈ rs, 0 ≤ g r ∧ g r ≤ B) : 0 ≤ (rs.map g).sum ∧ (rs.map g).sum ≤ rs.length * B ∧ ∀ r ∈ rs, g r ≤ (rs.map g).sum := by
  induction rs with
  | nil => exact ⟨Int.le_refl 0, by rw [List.length_nil]; show (0 : Int) ≤ 0 * B; rw [Int.zero_mul]; exact Int.le_refl 0, fun r hr => nomatch hr⟩
  | cons x t ih =>
    obtain ⟨i1, i2, i3⟩ := ih fun r hr => h r (List.mem_cons_of_mem _ hr)
    obtain ⟨x1, x2⟩ := h x List.mem_cons_self
    rw [List.map_cons, List.sum_cons, List.length_cons]
    have e : (((t.length + 1 : Nat) : Int)) * B = t.length * B + B := by rw [Int.natCast_add, Int.add_mul]; show _ + 1 * B = _; rw [Int.one_mul]
    refine ⟨by omega, by rw [e]; omega, fun r hr => ?_⟩
    rcases List.mem_cons.mp hr with rfl | hr
    · omega
    · have := i3 r hr
      omega
theorem snd_each : ∀ {l : List (Int × Int)}, (∀ r ∈ l, 0 < r.2) → 0 ≤ (l.map fun r => r.2).sum ∧ ∀ r ∈ l, r.2 ≤ (l.map fun r => r.2).sum
  | [], _ => ⟨Int.le_refl 0, fun r hr => nomatch hr⟩
  | x :: t, h => by
    obtain ⟨i1, i2⟩ := snd_each fun r hr => h r (List.mem_cons_of_mem _ hr)
    have x0 := h x List.mem_cons_self
    rw [List.map_cons, List.sum_cons]
    refine ⟨by omega, fun r hr => ?_⟩
    rcases List.mem_cons.mp hr with rfl | hr
    · omega
    · have := i2 r hr
      omega
theorem gr_sto {rs : List (Int × Int)} (h : GrR rs) : StoOk (jr rs) := by
  have big : (5 : Int) * 10 ^ 32 < 10 ^ 200 := by decide +kernel
  have big2 : (10 : Int) ^ 28 < 10 ^ 200 := by decide +kernel
  have ln := h.ln
  have pos : ∀ r ∈ jr rs, sizB r.1 = true ∧ 0 < r.2 := jr_all (P := fun r => sizB r.1 = true ∧ 0 < r.2) (fun a b c h1 h2 => ⟨h1.1, by have := h1.2; have := h2.2; show 0 < b + c; omega⟩) fun r hr => by
    obtain ⟨⟨a, b⟩, c, d⟩ := h.ok r hr
    exact ⟨siz_of a (by omega), c⟩
  have e := jr_sum (g := fun r => r.2) (fun a b c => rfl) rs
  obtain ⟨t0, t1, _⟩ := sum_bound (rs := rs) (g := fun r => r.2) (B := 10 ^ 32) fun r hr => by
    obtain ⟨_, c, d⟩ := h.ok r hr
    exact ⟨by show 0 ≤ r.2; omega, by show r.2 ≤ _; omega⟩
  have top : (rs.map fun r => r.2).sum ≤ 5 * 10 ^ 32 := Int.le_trans t1 (Int.mul_le_mul_of_nonneg_right (by omega) (by decide))
  refine ⟨fun r hr => ⟨(pos r hr).1, (pos r hr).2, ?_⟩, by have := jr_len rs; omega⟩
  have := (snd_each fun r hr => (pos r hr).2).2 r hr
  have := (pos r hr).2
  rw [e] at *
  omega
section
variable {K : PySem.W.Frag} {C : Addr} {σ : L2.St} {H H' : Hp} {ta tb te tl : TE} {a p u d : Addr} {ns us : List Int} {rs : List (Int × Int)} {j1 j2 : Nat} {ws : List Nat}
def Etp (K : PySem.W.Frag) (te : TE) (σ : L2.St) (H : Hp) (rs : List (Int × Int)) : Prop := ∀ H1, Ex H H1 → ∀ Q : VK, (∀ t ts H2, Ex H1 H2 → SqT K H2 t ts → F2 (RP K H2) ts rs → Q (.ref t) H2) → te σ H1 Q
end
section
variable {K : PySem.W.Frag} {σ : L2.St} {H : Hp} {ta tb te : TE} {p d l : Addr} {ns zs : List Int} {xs ys : List V} {i j n : Nat} {P : Int → Prop}
end
section
variable {K : PySem.W.Frag} {σ : L2.St} {H : Hp} {ta tb te : TE} {xs : List V} {Pr : V → Hp → Prop} {u : Addr} {z : V}
end
section
variable {K : PySem.W.Frag} {CS : Addr} {σ : L2.St} {H : Hp} {Q : VK}
theorem mk_stoV {vs : List V} {rs : List (Int × Int)} (hf : F2 (RP K H) vs rs) (hr : Rns rs) (q : ∀ a H', Ex H H' → StoAt K CS H' a (jr rs) → Q (.ref a) H') : ∀ x dx, H x = Option.none → H dx = Option.none → dx ≠ x → spStoI K CS (V.ref x :: vs) (upd (upd H dx (.own x)) x (.ins CS dx [])) (fun v H2 => v = .non ∧ Q (.ref x) H2) E0 := fun x dx nx nd ne => by
  have n2 : (upd H dx (.own x)) x = none := by rw [upd_ne ne.symm]; exact nx
  exact ⟨x, dx, vs, rs, H, rfl, (Ex.new nd).trans (Ex.new n2), nx, upd_same, hf, hr, fun H' e' hst => ⟨rfl, q x H' e' hst⟩⟩
theorem mk_sto0 (q : ∀ x H', Ex H H' → StoAt K CS H' x [] → Q (.ref x) H') : tMakeR CS (spStoI K CS) E0 tNil σ H Q := mk_stoV (rs := []) .nil ⟨(fun r h => nomatch h), by decide, by decide⟩ q
theorem etu_t {tr : TA} {xs : List V} (h : EvA tr σ H xs) (hl : xs.length ≤ 100000) : Etu K (tTup tr) σ H xs := etu_of (eu_tup h hl)
end
end Ck

namespace Ck
open PySem PySem.Spec PyProof.Rows L2 RZ
def ItN (K : PySem.W.Frag) (a b : Addr) : It :=
  ⟨fun i H => ∃ (xs ys : List V) (x y : V), (SqL K H a xs ∧ SqT K H b ys) ∧ xs[i]? = some x ∧ ys[i]? = some y,
    fun i H v H' => ∃ T x y, v = .ref T ∧ H T = none ∧ H' = upd H T (.tup [x, y]) ∧ (∀ us, SqL K H a us → us[i]? = some x) ∧ ∀ us, SqT K H b us → us[i]? = some y,
    fun i H => ∃ xs ys : List V, (SqL K H a xs ∧ SqT K H b ys) ∧ (i = xs.length ∧ i ≤ ys.length ∨ i ≤ xs.length ∧ i = ys.length)⟩
def ZipN (a b z ti to i1 i2 : Addr) (i : Nat) (h : Heap) : Prop :=
  IsZip h z ti to .none ∧ IsTupOf2 h ti (.ref i1) (.ref i2) ∧ (∃ x y, IsTupOf2 h to x y) ∧ h.IsListIter i1 a i ∧ h.IsTupleIter i2 b i
theorem turnN {P : Program} {w : World} {K : PySem.W.Frag} {es : List Expr} {kk : Nat} {tp : Pos} {a b z ti to i1 i2 : Addr} (D : ZipSep2 z ti to i1 i2 [i1, a] [i2, b]) (na : a ≠ i1) (nb : b ≠ i2) :
    Turn P w K (.Tuple es kk tp) (ItN K a b) (cells5 z ti to i1 i2) z (ZipN a b z ti to i1 i2) where
  mem := List.mem_cons_self
  obj := by
    rintro i h ⟨s1, s2, ⟨x, y, s3⟩, ⟨o1, e1, _, d1⟩, ⟨o2, e2, _, d2⟩⟩ c hc
    rcases in5 hc with rfl | rfl | rfl | rfl | rfl
    · exact ⟨_, s1, fun v => Data.noConfusion⟩
    · exact ⟨_, s2, fun v => Data.noConfusion⟩
    · exact ⟨_, s3, fun v => Data.noConfusion⟩
    · exact ⟨o1, e1, fun v => by rw [d1]; exact Data.noConfusion⟩
    · exact ⟨o2, e2, fun v => by rw [d2]; exact Data.noConfusion⟩
  keep := by
    rintro i h h' ⟨s1, s2, ⟨x, y, s3⟩, s4, s5⟩ k
    have q : ∀ c, c ∈ cells5 z ti to i1 i2 → ∀ o, h.get? c = some o → h'.get? c = some o := k
    exact ⟨q z (by simp) _ s1, q ti (by simp) _ s2, ⟨x, y, q to (by simp) _ s3⟩, s4.at (q i1 (by simp)), s5.at (q i2 (by simp))⟩
  item := by
    intro X e1 e2 e3 hc i pins s σ H E I hf st hg
    subst e1 e2 e3
    obtain ⟨s1, s2, ⟨x0, y0, s3⟩, s4, s5⟩ := st
    obtain ⟨xs, ys, x, y, ⟨qx, qy⟩, gx, gy⟩ := hg
    obtain ⟨us, ru, pu, _⟩ := I.list qx
    obtain ⟨ws, rw', pw, _⟩ := I.tuple qy
    obtain ⟨u, hu, rxu⟩ := ru.get gx
    obtain ⟨v, hv, ryv⟩ := rw'.get gy
    have hh : X.A.in1.handled = none := I.ok.hd hc
    have lu := (List.getElem?_eq_some_iff.mp hu).1
    have lv := (List.getElem?_eq_some_iff.mp hv).1
    have zl := Heap.lt_size s1
    refine wpAny_pyNext_zipD2_item D (Draws.list hh i1 a na us.toArray) (Draws.tuple hh i2 b nb ws.toArray) s1 s2 s3 ⟨s4, pu.isList⟩ ⟨s5, pw⟩ (by simpa using lu) (by simpa using lv) ?_
    intro u' v' h' tk eu ev z' to' i1' i2' nt sz kp
    obtain rfl : u = u' := Option.some.inj (hu.symm.trans (by simpa using eu))
    obtain rfl : v = v' := Option.some.inj (hv.symm.trans (by simpa using ev))
    refine ⟨_, rfl, wpAny_letOwnedTupleGo_zip (s := { s with heap := h', toks := tk }) z' fun h2 z2 sb => ?_⟩
    have stay : ∀ c o, c ∉ cells5 z ti to i1 i2 → s.heap.get? c = some o → h2.get? c = some o := fun c o n e => by
      obtain ⟨n1, n2, n3, n4⟩ := no5 n
      exact (sb.2 c n1).trans (kp c o n1 n2 n3 n4 e)
    have new : ObjOk X.prog X.w (upd H s.heap.objs.size (.tup [x, y])) h2 s.heap.objs.size (.tup [x, y]) :=
      ⟨(show 2 ≤ sizeLine by decide), [u, v], .cons rxu (.cons ryv .nil), ⟨_, (sb.2 _ (Nat.ne_of_gt zl)).trans nt, rfl, _, rfl⟩⟩
    have J := I.turnedNew (t' := tk) (ch := cells5 z ti to i1 i2) stay hf (Nat.le_refl _) new
    have fr := I.hok.fresh (Nat.le_refl s.heap.objs.size)
    refine ⟨.ref s.heap.objs.size, _, J, rfl, ⟨_, x, y, rfl, fr, rfl, fun l hl => ?_, fun l hl => ?_⟩, ⟨z2, ?_, ⟨u, v, ?_⟩, ?_, ?_⟩, fun c hcm => ?_⟩
    · rw [I.list_inj hl qx]; exact gx
    · rw [I.tuple_inj hl qy]; exact gy
    · exact (sb.2 ti D.TIz).trans (kp ti _ D.TIz D.TITO D.TIi1 D.TIi2 s2)
    · exact (sb.2 to D.TOz).trans to'
    · exact i1'.1.at fun o q => (sb.2 i1 D.zi1.symm).trans q
    · exact i2'.1.at fun o q => (sb.2 i2 D.zi2.symm).trans q
    · have lt : c < s.heap.objs.size := by
        rcases in5 hcm with e | e | e | e | e
        · exact e ▸ zl
        · exact e ▸ Heap.lt_size s2
        · exact e ▸ Heap.lt_size s3
        · obtain ⟨_, q, _⟩ := s4
          exact e ▸ Heap.lt_size q
        · obtain ⟨_, q, _⟩ := s5
          exact e ▸ Heap.lt_size q
      rw [upd_ne (Nat.ne_of_lt lt)]
      exact (hf c hcm).1
  done := by
    intro X e1 e2 e3 hc i pins s σ H E I hf st hg
    subst e1 e2 e3
    obtain ⟨s1, s2, ⟨x0, y0, s3⟩, s4, s5⟩ := st
    obtain ⟨xs, ys, ⟨qx, qy⟩, hend⟩ := hg
    obtain ⟨us, ru, pu, _⟩ := I.list qx
    obtain ⟨ws, rw', pw, _⟩ := I.tuple qy
    have hh : X.A.in1.handled = none := I.ok.hd hc
    have l1 := ru.length
    have l2 := rw'.length
    refine wpAny_pyNext_zipD2_end D (Draws.list hh i1 a na us.toArray) (Draws.tuple hh i2 b nb ws.toArray) s1 s2 s3 ⟨s4, pu.isList⟩ ⟨s5, pw⟩ (by simp; omega) (by simp; omega) (by simp; omega) fun h' tk kp => ⟨rfl, ?_⟩
    refine I.turnedL (t' := tk) (ch := cells5 z ti to i1 i2) (fun c o n e => ?_) hf
    obtain ⟨n1, n2, n3, n4⟩ := no5 n
    exact kp c o n1 n2 n3 n4 e
  self := fun A i s Q E st h => wpAny_pyIter_zip st.1 h

def iZipX (K : PySem.W.Frag) (ta : TA) : TI := fun σ H R => ta σ H fun vs H1 => ∃ a b xs ys, vs = [.ref a, .ref b] ∧ ((SqL K H1 a xs ∧ SqL K H1 b ys ∧ R (Itz K a b) H1) ∨ (SqT K H1 a xs ∧ SqT K H1 b ys ∧ R (ItzT K a b) H1) ∨ (SqT K H1 a xs ∧ SqL K H1 b ys ∧ R (ItM K a b) H1) ∨ (SqL K H1 a xs ∧ SqT K H1 b ys ∧ R (ItN K a b) H1))
theorem pi_zipX {X : Cx} {e e2 : Expr} {ta : TA} {p pos tp : Pos} {es : List Expr} {kk : Nat} (hg : Gl X "zip") (hm : X.mg "zip" = none) (ha : PA X [e, e2] ta)
    (hs : starEach [e, e2] X.env = (false, eval e X.env) :: starEach [e2] X.env := by rfl) (hpl : (backTo pos (starEach [e2] X.env)).any (·.1) = false := by rfl) :
    PI X (.Tuple es kk tp) (.Call (.Name "zip" p) [e, e2] [] pos) (iZipX X.K ta) := by
  refine ⟨fun pins s σ H R I h => Call_ (ld_blt I hg hm PyProof.Rows.boot_zip (PyProof.Rows.callWith_type1 (thn (ha.run pos pins s σ H _ I h) ?_) hs hpl))⟩
  rintro us s1 ⟨vs, H1, I1, r, a, b, xs, ys, rfl, q⟩
  obtain ⟨u, v, rfl, ra, rb⟩ := vals2 r
  cases ra
  cases rb
  have fr : ∀ c, c ∈ cells5 (s1.heap.objs.size + 4) (s1.heap.objs.size + 2) (s1.heap.objs.size + 3) s1.heap.objs.size (s1.heap.objs.size + 1) → FpOk X pins H1 c := fun c hcm => by
    have le : s1.heap.objs.size ≤ c := by
      rcases in5 hcm with e | e | e | e | e
      · rw [e]; exact Nat.le_add_right _ _
      · rw [e]; exact Nat.le_add_right _ _
      · rw [e]; exact Nat.le_add_right _ _
      · rw [e]; exact Nat.le_refl _
      · rw [e]; exact Nat.le_add_right _ _
    exact I1.fpOk le (I1.hok.fresh le)
  rcases q with ⟨qx, qy, q⟩ | ⟨qx, qy, q⟩ | ⟨qx, qy, q⟩ | ⟨qx, qy, q⟩
  · obtain ⟨its, rv, p1, _⟩ := I1.list qx
    obtain ⟨its2, rv2, p2, _⟩ := I1.list qy
    refine call_zip_2 p1.isList p2.isList fun h' hz hTI hTO h1 h2 hsz hk => wpAny_pyIter_zip hz ?_
    exact ⟨s1.heap.objs.size + 4, _, _, _, H1, rfl, I1.kept (t' := s1.toks) hk, turn_zip (PySem.W.ktu_apart s1.heap.objs.size a b p1.lt p2.lt), ⟨hz, hTI, ⟨_, _, hTO⟩, h1, h2⟩, fr, q⟩
  · obtain ⟨its, rv, p1, _⟩ := I1.tuple qx
    obtain ⟨its2, rv2, p2, _⟩ := I1.tuple qy
    obtain ⟨o1, ho1, _⟩ := id p1
    obtain ⟨o2, ho2, _⟩ := id p2
    refine call_zipT (show s1.heap.IsTuple a its.toArray from p1) (show s1.heap.IsTuple b its2.toArray from p2) fun h' hz hTI hTO h1 h2 hsz hk => wpAny_pyIter_zip hz ?_
    exact ⟨s1.heap.objs.size + 4, _, _, _, H1, rfl, I1.kept (t' := s1.toks) hk, turn_zipT (PySem.W.ktu_apart s1.heap.objs.size a b (Heap.lt_size ho1) (Heap.lt_size ho2)), ⟨hz, hTI, ⟨_, _, hTO⟩, h1, h2⟩, fr, q⟩
  · obtain ⟨its, _, p1, _⟩ := I1.tuple qx
    obtain ⟨its2, _, p2, _⟩ := I1.list qy
    have la : a < s1.heap.objs.size := by
      obtain ⟨_, e, _⟩ := id p1
      exact Heap.lt_size e
    have lb := p2.lt
    refine zip_begins2 (begins_tuple a its.toArray) (begins_list b its2.toArray) p1 p2.isList fun h' z ti to g1 g2 sz kp => wpAny_pyIter_zip z ?_
    have D := zip_sep2 (N := s1.heap.objs.size) (fp1 := [a]) (fp2 := [b]) (fun c hc => by cases List.mem_singleton.mp hc; exact la) (fun c hc => by cases List.mem_singleton.mp hc; exact lb)
    exact ⟨_, _, _, _, H1, rfl, I1.kept (t' := s1.toks) kp, turnM D (Nat.ne_of_lt la) (Nat.ne_of_lt (Nat.lt_succ_of_lt lb)), ⟨z, ti, ⟨_, _, to⟩, ⟨_, g1, rfl, rfl⟩, ⟨_, g2, rfl, rfl⟩⟩, fr, q⟩
  · obtain ⟨its, _, p1, _⟩ := I1.list qx
    obtain ⟨its2, _, p2, _⟩ := I1.tuple qy
    have la := p1.lt
    have lb : b < s1.heap.objs.size := by
      obtain ⟨_, e, _⟩ := id p2
      exact Heap.lt_size e
    refine zip_begins2 (begins_list a its.toArray) (begins_tuple b its2.toArray) p1.isList p2 fun h' z ti to g1 g2 sz kp => wpAny_pyIter_zip z ?_
    have D := zip_sep2 (N := s1.heap.objs.size) (fp1 := [a]) (fp2 := [b]) (fun c hc => by cases List.mem_singleton.mp hc; exact la) (fun c hc => by cases List.mem_singleton.mp hc; exact lb)
    exact ⟨_, _, _, _, H1, rfl, I1.kept (t' := s1.toks) kp, turnN D (Nat.ne_of_lt la) (Nat.ne_of_lt (Nat.lt_succ_of_lt lb)), ⟨z, ti, ⟨_, _, to⟩, ⟨_, g1, rfl, rfl⟩, ⟨_, g2, rfl, rfl⟩⟩, fr, q⟩
end Ck

namespace Ck
open PySem PySem.Spec PyProof.Rows L2 StX RZ
section
variable {X : Cx}
end
def rSlB (K : PySem.W.Frag) : V → Option Int → Option Int → Hp → VK → Prop := fun x lo hi H Q => rSlL K x lo hi H Q ∨ rSlA K x lo hi H Q
theorem sl_both {X : Cx} : SlR X (rSlB X.K) := sl_list.or sl_tupA
def spGapB (K : PySem.W.Frag) : Sp := fun vs H Q _ => ∃ (p : Addr) (ns : List Int), vs = [.ref p] ∧ (SqL K H p (ns.map V.int) ∨ (SqT K H p (ns.map V.int) ∧ ns ≠ [])) ∧ (∀ n ∈ ns, 0 < n) ∧ ∀ v H', Evl.Ex H H' → Dp K H' v (gapD (gap ns)) → Q v H'
section
variable {K : PySem.W.Frag} {σ : L2.St} {H : Hp} {p : Addr} {ns : List Int}
def tZipB (K : PySem.W.Frag) : TI := iZipX K (tCons (tVar 0) (tCons (tSl (rSlB K) (tVar 0) (tPart (tC (.int 1))) tNoPart) tNil))
theorem zip_goBL (hv : σ[0]? = some (some (.ref p))) (hp : SqL K H p (ns.map V.int)) {R : It → Hp → Prop} (k : ∀ c, H c = none → R (Itz K p c) (upd H c (.lst ((ns.drop 1).map V.int)))) : tZipB K σ H R := by
  refine ⟨.ref p, hv, .ref p, hv, 1, rfl, .inl ⟨p, _, rfl, hp, fun c hc => ⟨p, c, ns.map V.int, (ns.drop 1).map V.int, rfl, .inl ⟨Evl.ex_l (Evl.Ex.new hc) hp, ?_, ?_⟩⟩⟩⟩
  · rw [cutT1, ← List.map_drop]
    exact SqL.of upd_same
  · rw [cutT1, ← List.map_drop]
    exact k c hc
theorem zip_goBT (hv : σ[0]? = some (some (.ref p))) (hp : SqT K H p (ns.map V.int)) (hne : ns ≠ []) {R : It → Hp → Prop} (k : ∀ c, H c = none → R (ItzT K p c) (upd H c (.tup ((ns.drop 1).map V.int)))) : tZipB K σ H R := by
  refine ⟨.ref p, hv, .ref p, hv, 1, rfl, .inr ⟨p, _, rfl, hp, fun z => ?_, fun _ c hc => ?_⟩⟩
  · have e : HT.sIx (ns.map V.int).length 0 (some 1) = min 1 (ns.map V.int).length := HT.sIx_nat _ 0 1
    rw [e, List.length_map] at z
    have l : 0 < ns.length := List.length_pos_iff.mpr hne
    omega
  · refine ⟨p, c, ns.map V.int, (ns.drop 1).map V.int, rfl, .inr (.inl ⟨?_, ?_, ?_⟩)⟩
    · exact Evl.ex_t (Evl.Ex.new hc) hp
    · rw [cutT1, ← List.map_drop]
      exact SqT.of upd_same
    · rw [cutT1, ← List.map_drop]
      exact k c hc
end
end Ck

namespace Ck
open PySem PySem.Spec PyProof.Rows L2 StX Evl
structure LotC (ps : List (Int × Int)) : Prop where
  ct : Cts ps
  asc : Asc ps
  ch : gap (ps.map Prod.fst) = none
def spTogN (K : PySem.W.Frag) : Sp := fun vs H Q _ => ∃ (p : Addr) (ns : List Int), vs = [.ref p] ∧ SqT K H p (ns.map V.int) ∧ ns.length < 60 ∧ (∀ n ∈ ns, 0 < n) ∧ gap (uni ns) = none ∧ ∀ H', Ex H H' → Q .non H'
def spLotU (K : PySem.W.Frag) (C : Addr) : Sp := fun vs H Q _ => ∃ (a : Addr) (s : Int) (ps : List (Int × Int)), vs = [.ref a, .int s] ∧ LotAt K C H a ps ∧ Cts ps ∧ sizB s = true ∧ (∀ p ∈ ps, s < p.1 → s ∣ p.1) ∧ ∀ H', Ex H H' → Q (.int (unt ps s)) H'
def spChkL (K : PySem.W.Frag) (CL CS : Addr) : Sp := fun vs H Q _ => ∃ (a b : Addr) (ps rs : List (Int × Int)), vs = [.ref a, .ref b] ∧ LotAt K CL H a ps ∧ LotC ps ∧ StoAt K CS H b rs ∧ ∀ H', Ex H H' → Q .non H'
def RT3 (K : PySem.W.Frag) (H : Hp) (x : V) (q : Int × Int × Int) : Prop := ∃ t, x = .ref t ∧ SqT K H t [.int q.1, .int q.2.1, .int q.2.2]
def lvs (ps rs : List (Int × Int)) : List (Int × Int × Int) := (ps.map Prod.fst).map fun s => (s, unt ps s, unt rs s)
def brs (ps rs : List (Int × Int)) : List Int := (ps.map Prod.fst).filter fun s => decide (unt rs s < unt ps s)
def spLvs (K : PySem.W.Frag) (CL CS : Addr) : Sp := fun vs H Q _ => ∃ (a b : Addr) (ps rs : List (Int × Int)), vs = [.ref a, .ref b] ∧ LotAt K CL H a ps ∧ LotC ps ∧ StoAt K CS H b rs ∧ StoOk rs ∧ ∀ t ts H', Ex H H' → SqT K H' t ts → F2 (RT3 K H') ts (lvs ps rs) → Q (.ref t) H'
def spBrs (K : PySem.W.Frag) (CL CS : Addr) : Sp := fun vs H Q _ => ∃ (a b : Addr) (ps rs : List (Int × Int)), vs = [.ref a, .ref b] ∧ LotAt K CL H a ps ∧ LotC ps ∧ StoAt K CS H b rs ∧ StoOk rs ∧ ∀ t H', Ex H H' → SqT K H' t ((brs ps rs).map V.int) → Q (.ref t) H'
def fitB (ps rs : List (Int × Int)) : Bool := (ps.map Prod.fst).all fun s => decide (unt ps s ≤ unt rs s)
def spFits (K : PySem.W.Frag) (CL CS : Addr) : Sp := fun vs H Q _ => ∃ (a b : Addr) (ps rs : List (Int × Int)), vs = [.ref a, .ref b] ∧ LotAt K CL H a ps ∧ LotC ps ∧ StoAt K CS H b rs ∧ StoOk rs ∧ ∀ H', Ex H H' → Q (.bl (fitB ps rs)) H'
theorem RT3.ex {K : PySem.W.Frag} {H H' : Hp} {x : V} {q : Int × Int × Int} (e : Ex H H') (h : RT3 K H x q) : RT3 K H' x q := h.imp fun t h => ⟨h.1, ex_t e h.2⟩
theorem RT3.upd {K : PySem.W.Frag} {H : Hp} {l : Addr} {xs ys : List V} {x : V} {q : Int × Int × Int} (hl : H l = some (.lst xs)) (h : RT3 K H x q) : RT3 K (L2.upd H l (.lst ys)) x q := h.imp fun t h => ⟨h.1, sqT_updL h.2 hl⟩
theorem lot_m (t1 t2 d : Addr) : (lotF t1 t2 d).lookup ("units" : Str) = none := by
  unfold lotF
  rw [lookup_putF, if_neg (by decide +kernel), lookup_putF, if_neg (by decide +kernel), lookup_putF, if_neg (by decide +kernel)]
  rfl
theorem ev_lotU {K : PySem.W.Frag} {C : Addr} {σ : L2.St} {H : Hp} {te ti : TE} {a : Addr} {s : Int} {ps : List (Int × Int)} (h : Ev te σ H (.ref a)) (hb : Ev ti σ H (.int s)) (hs : LotAt K C H a ps) (hc : Cts ps) (hz : sizB s = true) (hd : ∀ p ∈ ps, s < p.1 → s ∣ p.1) : Ev (tMeth C "units" (spLotU K C) [] E0 te (tCons ti tNil)) σ H (.int (unt ps s)) := fun H1 e Q q => h H1 e _ fun H2 e2 => by
  obtain ⟨dx, t1, t2, d, ts, h1, _⟩ := (hs.up (e.trans e2)).ex
  exact ⟨a, dx, _, rfl, h1, lot_m t1 t2 d, hb H2 (e.trans e2) _ fun H3 e3 => ⟨a, s, ps, rfl, hs.up ((e.trans e2).trans e3), hc, hz, hd, fun H' e4 => q H' ((e2.trans e3).trans e4)⟩⟩
theorem ev_any {K : PySem.W.Frag} {σ : L2.St} {H : Hp} {te : TE} {bs : List Bool} (h : EvL te σ H (bs.map V.bl)) : Ev (tCB (rAny K) (tCons te tNil)) σ H (.bl (bs.any id)) := fun H1 e Q q =>
  h H1 e _ fun l H2 _ e2 hl => ⟨l, bs, rfl, sq_of hl, q H2 e2⟩
theorem fit_brs (ps rs : List (Int × Int)) : decide (brs ps rs = []) = fitB ps rs := by
  unfold brs fitB
  rw [fil_nil]
  refine all_same fun s _ => ?_
  by_cases c : unt rs s < unt ps s
  · rw [decide_eq_true c, decide_eq_false (by omega)]; rfl
  · rw [decide_eq_false c, decide_eq_true (by omega)]; rfl
theorem LotC.dv {ps : List (Int × Int)} (h : LotC ps) : ∀ s ∈ ps.map Prod.fst, ∀ p ∈ ps, s < p.1 → s ∣ p.1 := by
  have pos : ∀ n ∈ ps.map Prod.fst, 0 < n := fun n hn => (cts_pos h.ct n hn).1
  have pw : (ps.map Prod.fst).Pairwise Dv := chain_pw (pw_asc h.asc) h.ch pos
  intro s hs p hp lt
  have hm : p.1 ∈ ps.map Prod.fst := List.mem_map_of_mem hp
  obtain ⟨i, hi, ei⟩ := List.mem_iff_getElem.mp hs
  obtain ⟨j, hj, ej⟩ := List.mem_iff_getElem.mp hm
  have r := List.pairwise_iff_getElem.mp pw
  rcases Nat.lt_trichotomy i j with h1 | h1 | h1
  · have z := (r i j hi hj h1).2
    rw [ei, ej] at z
    exact Int.dvd_of_emod_eq_zero z
  · subst h1
    rw [ei] at ej
    omega
  · have z := (r j i hj hi h1).1
    rw [ei, ej] at z
    omega
section
variable {K : PySem.W.Frag} {σ : L2.St} {H : Hp} {tl te ta tb tc : TE} {tt : TT} {ns : List Int} {qs : List (Int × Int × Int)} {j j1 j2 j3 : Nat} {ws : List Nat}
theorem lc_tupE {α : Type} {R : Hp → V → α → Prop} {e : Int → α} (L : ∀ H H' x b, Ex H H' → R H x b → R H' x b) (LU : ∀ H l xs ys x b, H l = some (.lst xs) → R H x b → R (upd H l (.lst ys)) x b) (h : Etu K tl σ H (ns.map V.int)) (hz : ns.length ≤ 40000) (hw : ∀ x, wipe ((wipe σ ws).set j (some x)) ws = wipe σ ws)
    (he : ∀ n ∈ ns, ∀ H1, Ex H H1 → EvR R te ((wipe σ ws).set j (some (.int n))) H1 (e n)) :
    ∀ H1, Ex H H1 → ∀ Q : VK, (∀ D vs H2, H1 D = none → Ex H1 H2 → H2 D = some (.lst vs) → F2 (R H2) vs (ns.map e) → Q (.ref D) H2) → tLc (iTup K tl) (gName j) tYes te ws σ H1 Q := fun H0 e0 Q q => h H0 e0 _ fun a H1 e1 hx => by
  have z := lc_tupF (K := K) (σ := σ) (tl := tC (.ref a)) (te := te) (tt := tYes) (ws := ws) (j := j) (R := R) (c := fun _ => true) (e := e) L LU (H := H1) (ev_c) hx hz hw (fun n _ H2 _ H3 _ Q q => q H3 (Ex.refl H3)) (fun n hn _ H2 e2 => he n hn H2 ((e0.trans e1).trans e2)) H1 (Ex.refl H1) Q (fun D vs H2 nD e2 hD hf => by
    rw [List.filter_eq_self.mpr fun _ _ => rfl] at hf
    exact q D vs H2 (fresh_back e1 nD) (e1.trans e2) hD hf)
  exact z
theorem evr_t3 {a b c : Int} (ha : Ev ta σ H (.int a)) (hb : Ev tb σ H (.int b)) (hc : Ev tc σ H (.int c)) : EvR (RT3 K) (tTup (tCons ta (tCons tb (tCons tc tNil)))) σ H (a, b, c) := fun H1 e Q q =>
  ha H1 e _ fun H2 e2 => hb H2 (e.trans e2) _ fun H3 e3 => hc H3 ((e.trans e2).trans e3) _ fun H4 e4 => ⟨(show 3 ≤ sizeLine by decide), fun p hp => q _ _ (((e2.trans e3).trans e4).trans (Ex.new hp)) ⟨p, rfl, SqT.of upd_same⟩⟩
theorem el_lcT3 (c : Int × Int × Int → Bool) (f : Int × Int × Int → V) (h : ∀ H1, Ex H H1 → ∀ Q : VK, (∀ t ts H2, Ex H1 H2 → SqT K H2 t ts → F2 (RT3 K H2) ts qs → Q (.ref t) H2) → tl σ H1 Q) (hz : qs.length ≤ 40000)
    (hw : ∀ x y z, wipe ((((wipe σ ws).set j1 (some x)).set j2 (some y)).set j3 (some z)) ws = wipe σ ws)
    (ht : ∀ q ∈ qs, ∀ H1, Ex H H1 → EvT tt ((((wipe σ ws).set j1 (some (.int q.1))).set j2 (some (.int q.2.1))).set j3 (some (.int q.2.2))) H1 (c q))
    (he : ∀ q ∈ qs, ∀ H1, Ex H H1 → Ev te ((((wipe σ ws).set j1 (some (.int q.1))).set j2 (some (.int q.2.1))).set j3 (some (.int q.2.2))) H1 (f q)) :
    EvL (tLc (iTup K tl) (gTup K 3 (gCons (gName j1) (gCons (gName j2) (gCons (gName j3) gNil)))) tt te ws) σ H ((qs.filter c).map f) := fun H0 e0 Q q => h H0 e0 _ fun l ts H1 e1 hl hf => ⟨l, rfl, ⟨ts, hl⟩, fun D hD => by
  have e01 := e0.trans e1
  refine lc_it walk_tup (fun i H' => H1 D = none ∧ Ex H1 H' ∧ H' D = some (.lst (((qs.take i).filter c).map f))) ⟨hD, Ex.new hD, upd_same⟩ (fun i H' _ p => ex_t p.2.1 hl) ?_ ?_
  · rintro i x H' H2 hi ⟨p1, p2, p3⟩ ⟨rfl, hxi⟩
    obtain ⟨p, hp, t, rfl, hpt⟩ := hf.at hxi
    have m := List.mem_of_getElem? hp
    have st : qs.take (i + 1) = qs.take i ++ [p] := by rw [List.take_add_one, hp]; rfl
    have i12 : i < qs.length := (List.getElem?_eq_some_iff.mp hp).1
    refine ⟨t, _, rfl, ex_t p2 hpt, rfl, _, _, rfl, _, _, rfl, _, _, rfl, rfl, hw _ _ _, ht p m H2 (e01.trans p2) H2 (Ex.refl H2) _ fun H4 e4 => ?_⟩
    cases hc : c p with
    | true =>
      refine iteT (he p m H4 ((e01.trans p2).trans e4) H4 (Ex.refl _) _ fun H5 e5 => ⟨_, e5 _ _ (e4 _ _ p3), sz_lt ?_, p1, Ex.mut (p2.trans (e4.trans e5)) p1, ?_⟩)
      · rw [List.length_map]
        have := List.length_filter_le c (qs.take i)
        rw [List.length_take] at this
        omega
      · rw [upd_same, st, List.filter_append, List.map_append, show [p].filter c = [p] by rw [List.filter_cons, hc]; rfl]
        rfl
    | false =>
      refine iteF ⟨p1, p2.trans e4, ?_⟩
      rw [e4 _ _ p3, st, List.filter_append, show [p].filter c = [] by rw [List.filter_cons, hc]; rfl, List.append_nil]
  · rintro H' ⟨p1, p2, p3⟩
    rw [hf.len, List.take_of_length_le (Nat.le_refl _)] at p3
    exact q D H' (fresh_back e1 p1) (e1.trans p2) p3⟩
end
theorem brs_lvs (ps rs : List (Int × Int)) : ((lvs ps rs).filter fun q => decide (q.2.1 > q.2.2)).map Prod.fst = brs ps rs := by
  unfold lvs brs
  generalize ps.map Prod.fst = ns
  induction ns with
  | nil => rfl
  | cons n r ih =>
    rw [List.map_cons, List.filter_cons, List.filter_cons]
    show List.map Prod.fst (if decide (unt ps n > unt rs n) = true then _ else _) = if decide (unt rs n < unt ps n) = true then _ else _
    by_cases c : unt rs n < unt ps n
    · rw [if_pos (decide_eq_true c), if_pos (decide_eq_true c), List.map_cons, ih]
    · rw [if_neg (by rw [decide_eq_false c]; exact Bool.false_ne_true), if_neg (by rw [decide_eq_false c]; exact Bool.false_ne_true), ih]
theorem LotC.uni {ps : List (Int × Int)} (h : LotC ps) : gap (uni (ps.map Prod.fst)) = none := by
  rw [uni_one h.asc fun k => Iff.rfl]
  exact h.ch
theorem st_retTF {K : PySem.W.Frag} {σ : L2.St} {H : Hp} {tl : TE} {D : Ends} {α : Type} {R : Hp → V → α → Prop} {as : List α} (RE : ∀ H H' x b, Ex H H' → R H x b → R H' x b) (h : ∀ Q : VK, (∀ p vs H2, H p = none → Ex H H2 → H2 p = some (.lst vs) → F2 (R H2) vs as → Q (.ref p) H2) → tl σ H Q)
    (k : ∀ l vs H2, Ex H H2 → SqT K H2 l vs → F2 (R H2) vs as → D.rt (.ref l) H2) : tRet (tCB (rTupS K) (tCons tl tNil)) D σ H := h _ fun p vs H2 np e hp hf => ⟨p, vs, rfl, .inl ⟨SqL.of hp, fun l nl => k l vs _ (e.trans (Ex.new nl)) (SqT.of upd_same) (hf.imp fun x b r => RE _ _ _ _ (Ex.new nl) r)⟩⟩
end Ck

namespace Ck
open PySem PySem.Spec PyProof.Rows L2 StX Evl RZ
section
variable {K : PySem.W.Frag} {σ : L2.St} {H H3 : Hp} {ta tb te tl : TE} {p a b : Addr} {xs ys : List V} {ms ns : List Int} {j1 j2 : Nat} {ws : List Nat}
end
end Ck

namespace Ck
open PySem PySem.Spec PyProof.Rows L2 StX Evl RZ
section
variable {K : PySem.W.Frag} {σ : L2.St} {H H' : Hp} {d : Addr} {te : TE} {j : Nat} {ws : List Nat}
end
section
variable {K : PySem.W.Frag} {CL CS : Addr} {σ : L2.St} {H : Hp} {ta tb tc : TE} {p a b : Addr} {ns : List Int} {ps rs ss : List (Int × Int)}
def Esto (K : PySem.W.Frag) (C : Addr) (te : TE) (σ : L2.St) (H : Hp) (rs : List (Int × Int)) : Prop := ∀ H1, Ex H H1 → ∀ Q : VK, (∀ c H2, Ex H1 H2 → StoAt K C H2 c rs → Q (.ref c) H2) → te σ H1 Q
end
end Ck
namespace Ck
open PySem PySem.Spec PyProof.Rows L2 StX Evl RZ
section
variable {K : PySem.W.Frag} {C : Addr} {σ : L2.St} {H : Hp} {ta tb : TE} {a : Addr} {ms ns : List Int} {rs : List (Int × Int)}
end
theorem cut_lotC {ns : List Int} {ps qs : List (Int × Int)} (ic : IsC ns) (hc : Cts ps) (hm : ∀ x ∈ ps, x.1 ∈ ns) (hp : qs.Perm ps) (ha : Asc qs) : LotC qs ∧ ∀ s ∈ qs.map Prod.fst, s ∈ ns := by
  have sub : ∀ s ∈ qs.map Prod.fst, s ∈ ns := fun s hs => by
    obtain ⟨x, hx, rfl⟩ := List.mem_map.mp hs
    exact hm x (hp.mem_iff.mp hx)
  refine ⟨⟨hc.perm hp, ha, pw_gap ?_⟩, sub⟩
  refine List.Pairwise.imp_of_mem (fun {a b} ha hb (lt : a < b) => ⟨lt, ?_⟩) ha
  obtain ⟨i, hi, ei⟩ := List.mem_iff_getElem.mp (sub a ha)
  obtain ⟨j, hj, ej⟩ := List.mem_iff_getElem.mp (sub b hb)
  have r := List.pairwise_iff_getElem.mp ic.pw
  rcases Nat.lt_trichotomy i j with h | h | h
  · have z := (r i j hi hj h).2
    rw [ei, ej] at z
    exact z
  · subst h
    rw [ei] at ej
    omega
  · have z := (r j i hj hi h).1
    rw [ei, ej] at z
    omega
section
variable {K : PySem.W.Frag} {C : Addr} {σ : L2.St} {H : Hp} {te : TE} {i j l : Nat} {z : TS} {D : Ends}
end
end Ck
namespace Ck
open PySem PySem.Spec PyProof.Rows L2 StX Evl RZ
section
variable {K : PySem.W.Frag} {C : Addr} {σ : L2.St} {H : Hp} {tl te : TE} {D : Addr} {i j : Nat} {ws : List Nat} {l1 l2 l3 : Addr} {r1 r2 r3 : List (Int × Int)}
end
end Ck

namespace Ck
open PySem PySem.Spec PyProof.Rows L2 StX Evl RZ
theorem units_eq {s : Int} (s0 : 0 < s) : ∀ {ps : List (Int × Int)}, (∀ p ∈ ps, 0 < p.1) → (∀ p ∈ ps, s < p.1 → s ∣ p.1) → ((ps.filter fun p => decide (p.1 ≥ s)).map fun p => p.1 * p.2).sum = s * unt ps s
  | [], _, _ => by
    show (0 : Int) = s * 0
    rw [Int.mul_zero]
  | p :: r, h, d => by
    have ih := units_eq s0 (ps := r) (fun q hq => h q (List.mem_cons_of_mem _ hq)) (fun q hq => d q (List.mem_cons_of_mem _ hq))
    have p0 := h p List.mem_cons_self
    rw [List.filter_cons, unt_cons, Int.mul_add]
    by_cases c : s ≤ p.1
    · rw [if_pos (decide_eq_true c), sum_cons2, ih]
      have dv : s ∣ p.1 := by
        rcases Int.lt_or_eq_of_le c with h1 | h1
        · exact d p List.mem_cons_self h1
        · rw [← h1]; exact Int.dvd_refl s
      have e : p.1 = s * (p.1 / s) := (Int.mul_ediv_cancel' dv).symm
      generalize p.1 / s = k at e ⊢
      rw [e, Int.mul_assoc, Int.mul_comm k]
    · rw [if_neg (by rw [decide_eq_false c]; exact Bool.false_ne_true), ih, Int.ediv_eq_zero_of_lt (Int.le_of_lt p0) (by omega), Int.mul_zero, Int.mul_zero, Int.zero_add]
theorem unt_perm {a b : List (Int × Int)} (p : a.Perm b) (s : Int) : unt a s = unt b s := sum_of_perm (p.map _)
def spUnL : Sp := fun vs H Q _ => ∃ (g : Addr) (s : Int) (ps : List (Int × Int)), vs = [.ref g, .int s] ∧ H g = some (.dK (ps.map kc)) ∧ Cts ps ∧ 0 < s ∧ s.natAbs < 10 ^ 200 ∧ (∀ p ∈ ps, s < p.1 → s ∣ p.1) ∧ ∀ H', Ex H H' → Q (.int (unt ps s)) H'
theorem unl_v {H : Hp} {g : Addr} {s : Int} {ps : List (Int × Int)} (hg : H g = some (.dK (ps.map kc))) (hc : Cts ps) (s0 : 0 < s) (s1 : s.natAbs < 10 ^ 200) (hd : ∀ p ∈ ps, s < p.1 → s ∣ p.1) : SpV spUnL [.ref g, .int s] H (.int (unt ps s)) := fun H1 e Q q E => ⟨g, s, ps, rfl, e _ _ hg, hc, s0, s1, hd, q⟩
section
variable {K : PySem.W.Frag} {σ : L2.St} {H : Hp} {tl te ta tb tc : TE} {tt : TT} {ns : List Int} {qs : List (Int × Int × Int)} {j j1 j2 j3 : Nat} {ws : List Nat}
end
section
variable {K : PySem.W.Frag} {CL CS : Addr} {σ : L2.St} {H : Hp} {te ta tb tc : TE} {tr : TA} {a b : Addr} {ps rs : List (Int × Int)}
theorem disp3 {a b c d e f : Int} (n : (([(a, b), (c, d), (e, f)] : List (Int × Int)).map Prod.fst).Nodup) (Q : VK) (q : ∀ p H1, Ex H H1 → H1 p = some (.dK (([(a, b), (c, d), (e, f)] : List (Int × Int)).map kc)) → Q (.ref p) H1) :
    tDisp [(tC (.int a), tC (.int b)), (tC (.int c), tC (.int d)), (tC (.int e), tC (.int f))] σ H Q := fun p hp0 => by
  refine ⟨upd_same, [(a, b), (c, d), (e, f)].map kc, rfl, (show 3 ≤ 15 by decide), ?_⟩
  rw [merge_kc n]
  exact q p _ (fun x o z => by
    have n := ne_of_none z hp0
    rw [upd_ne n, upd_ne n]
    exact z) upd_same
def Elot (K : PySem.W.Frag) (C : Addr) (te : TE) (σ : L2.St) (H : Hp) (ps : List (Int × Int)) : Prop := ∀ H1, Ex H H1 → ∀ Q : VK, (∀ a H2, Ex H1 H2 → LotAt K C H2 a ps → Q (.ref a) H2) → te σ H1 Q
theorem elot_v (h : Ev te σ H (.ref a)) (hl : LotAt K CL H a ps) : Elot K CL te σ H ps := fun H1 e Q q => h H1 e _ fun H2 e2 => q a H2 e2 (hl.up (e.trans e2))
theorem elot_mk (h : ∀ H1, Ex H H1 → ∀ Q : VK, (∀ p H2, Ex H1 H2 → H2 p = some (.dK (ps.map kc)) → Q (.ref p) H2) → te σ H1 Q) (hc : Cts ps) (ha : Asc ps) : Elot K CL (tMakeR CL (spLotI K CL) E0 (tCons te tNil)) σ H ps := fun H1 e Q q =>
  lot_make (K := K) (ps := ps) (fun Q2 q2 => h H1 e Q2 q2) hc Q fun x qs H2 e2 hp hq hl => q x H2 e2 (by rw [← asc_unique hq ha hp]; exact hl)
theorem elot_0 : Elot K CL (tLot0 K CL) σ H [] := fun H1 e Q q => lot_make0 (K := K) (C := CL) Q q
theorem esto_v (h : Ev te σ H (.ref a)) (hl : StoAt K CS H a rs) : Esto K CS te σ H rs := fun H1 e Q q => h H1 e _ fun H2 e2 => q a H2 e2 (hl.up (e.trans e2))
theorem fits_e (ha : Elot K CL ta σ H ps) (hb : Esto K CS tb σ H rs) (hc : LotC ps) (ho : StoOk rs) : Ev (tCall (spFits K CL CS) [] E0 (tCons ta (tCons tb tNil))) σ H (.bl (fitB ps rs)) := fun H1 e Q q => ha H1 e _ fun a H2 e2 hl => hb H2 (e.trans e2) _ fun b H3 e3 hs =>
  ⟨a, b, ps, rs, rfl, hl.up e3, hc, hs, ho, fun H4 e4 => q H4 ((e2.trans e3).trans e4)⟩
end
end Ck

namespace Ck
open PySem PySem.Spec PyProof.Rows L2 StX Evl RZ
section
variable {X : Cx} {n k j : Nat} {f C : Addr} {fd : FuncData} {ps : List Str} {sp : Sp} {op : Operator} {x : Str}
end
def AdjI (ns : List Int) : Prop := ∀ i a b, ns[i]? = some a → ns[i + 1]? = some b → a ≠ b
theorem jn1_adj {acc : List (Int × Int)} (r : Int × Int) (h : AdjI (acc.map Prod.fst)) : AdjI ((jn1 acc r).map Prod.fst) := by
  unfold jn1
  split
  · next l e =>
    obtain ⟨ys, rfl⟩ := List.getLast?_eq_some_iff.mp e
    split
    · next el =>
      rw [List.dropLast_concat, List.map_append]
      rw [List.map_append] at h
      show AdjI (ys.map Prod.fst ++ [r.1])
      rw [← el]
      exact h
    · next ne =>
      rw [List.map_append]
      intro i a b ha hb
      by_cases c : i + 1 < ((ys ++ [l]).map Prod.fst).length
      · rw [List.getElem?_append_left c] at hb
        rw [List.getElem?_append_left (by omega)] at ha
        exact h i a b ha hb
      · have hi : i + 1 = ((ys ++ [l]).map Prod.fst).length := by
          have := (List.getElem?_eq_some_iff.mp hb).1
          rw [List.length_append, List.length_map (as := [r])] at this
          have : i + 1 < ((ys ++ [l]).map Prod.fst).length + 1 := this
          omega
        rw [List.getElem?_append_right (by omega), hi, Nat.sub_self] at hb
        rw [List.getElem?_append_left (by omega), List.map_append] at ha
        have hy : i = (ys.map Prod.fst).length := by
          rw [List.map_append, List.length_append] at hi
          have : i + 1 = (ys.map Prod.fst).length + 1 := hi
          omega
        rw [List.getElem?_append_right (by omega), hy, Nat.sub_self] at ha
        have e1 : l.1 = a := Option.some.inj ha
        have e2 : r.1 = b := Option.some.inj hb
        rw [← e1, ← e2]
        exact ne
  · next e =>
    rw [List.getLast?_eq_none_iff.mp e]
    intro i a b ha hb
    have := (List.getElem?_eq_some_iff.mp hb).1
    have : i + 1 < 1 := this
    omega
theorem jr_adj (rs : List (Int × Int)) : AdjI ((jr rs).map Prod.fst) := by
  have : ∀ (rs acc : List (Int × Int)), AdjI (acc.map Prod.fst) → AdjI ((rs.foldl jn1 acc).map Prod.fst) := fun rs => by
    induction rs with
    | nil => exact fun acc h => h
    | cons r t ih => exact fun acc h => ih (jn1 acc r) (jn1_adj r h)
  exact this rs [] fun i a b ha _ => by cases ha
theorem jr_jr (rs : List (Int × Int)) : jr (jr rs) = jr rs := jr_self fun i a b ha hb => jr_adj rs i a.1 b.1 (by rw [List.getElem?_map, ha]; rfl) (by rw [List.getElem?_map, hb]; rfl)
section
variable {K : PySem.W.Frag} {C l : Addr} {σ : L2.St} {H : Hp} {te ta tb : TE} {vs : List V} {rs ss : List (Int × Int)} {Q : VK}
end
end Ck

namespace Ck
open PySem PySem.Spec PyProof.Rows L2 StX Evl RZ
def spBars (K : PySem.W.Frag) : Sp := fun vs0 H Q _ => ∃ (g l : Addr) (ps qs rs : List (Int × Int)) (vs : List V), vs0 = [.ref g, .ref l] ∧ H g = some (.dK (ps.map kc)) ∧ Cts ps ∧ qs.Perm ps ∧ LotC qs ∧ SqL K H l vs ∧ F2 (RP K H) vs rs ∧ rs.length ≤ 1000 ∧ (∀ r ∈ rs, 0 ≤ r.1 ∧ r.1.natAbs < 10 ^ 200 ∧ r.2.natAbs < 10 ^ 200) ∧ ∀ t H', Ex H H' → H' t = some (.lst ((brs qs rs).map V.int)) → Q (.ref t) H'
theorem brs_nil {ps rs : List (Int × Int)} : brs ps rs = [] ↔ ∀ s ∈ ps.map Prod.fst, unt ps s ≤ unt rs s := by
  unfold brs
  rw [List.filter_eq_nil_iff]
  constructor
  · intro h s hs
    have := h s hs
    rw [decide_eq_true_eq] at this
    omega
  · intro h s hs
    have := h s hs
    rw [decide_eq_true_eq]
    omega
theorem fit_true {ps rs : List (Int × Int)} (h : ∀ s ∈ ps.map Prod.fst, unt ps s ≤ unt rs s) : fitB ps rs = true := List.all_eq_true.mpr fun s hs => decide_eq_true (h s hs)
theorem jr_bnd {rs : List (Int × Int)} (h : ∀ r ∈ rs, sizB r.1 = true ∧ 0 < r.2) : ∀ r ∈ jr rs, (sizB r.1 = true ∧ 0 < r.2) ∧ r.2 ≤ (rs.map fun r => r.2).sum := fun r hr => by
  have pos : ∀ r ∈ jr rs, sizB r.1 = true ∧ 0 < r.2 := jr_all (P := fun r => sizB r.1 = true ∧ 0 < r.2) (fun a b c h1 h2 => ⟨h1.1, by have := h1.2; have := h2.2; show 0 < b + c; omega⟩) h
  have e := jr_sum (g := fun r => r.2) (fun a b c => rfl) rs
  have := (snd_each fun r hr => (pos r hr).2).2 r hr
  rw [e] at this
  exact ⟨pos r hr, this⟩
section
variable {K : PySem.W.Frag} {σ : L2.St} {H : Hp} {tl te : TE} {tt : TT} {ns : List Int} {xs : List V} {a : Addr} {j : Nat} {ws : List Nat}
def Elv (K : PySem.W.Frag) (te : TE) (σ : L2.St) (H : Hp) (xs : List V) : Prop := ∀ H1, Ex H H1 → ∀ Q : VK, (∀ p H2, Ex H1 H2 → SqL K H2 p xs → Q (.ref p) H2) → te σ H1 Q
theorem elv_v (h : Ev tl σ H (.ref a)) (hl : SqL K H a xs) : Elv K tl σ H xs := fun H1 e Q q => h H1 e _ fun H2 e2 => q a H2 e2 (ex_l (e.trans e2) hl)
theorem el_lcVN (c : Int → Bool) (f : Int → V) (h : Elv K tl σ H (ns.map V.int)) (hz : ns.length ≤ 40000) (hw : ∀ x, wipe ((wipe σ ws).set j (some x)) ws = wipe σ ws)
    (ht : ∀ n ∈ ns, ∀ H1, Ex H H1 → EvT tt ((wipe σ ws).set j (some (.int n))) H1 (c n)) (he : ∀ n ∈ ns, c n = true → ∀ H1, Ex H H1 → Ev te ((wipe σ ws).set j (some (.int n))) H1 (f n)) :
    EvL (tLc (iList K tl) (gName j) tt te ws) σ H ((ns.filter c).map f) := fun H0 e0 Q q => h H0 e0 _ fun a H1 e1 hx => ⟨a, rfl, ⟨_, hx⟩, fun D hD => by
  refine lc_it walk_list (fun i H' => H1 D = none ∧ Ex H1 H' ∧ ∃ vs, H' D = some (.lst vs) ∧ vs.length ≤ i ∧ vs = ((ns.take i).filter c).map f) ⟨hD, Ex.new hD, [], upd_same, Nat.le_refl _, rfl⟩ (fun i H' _ p => ex_l p.2.1 hx) ?_ ?_
  · rintro i x H2 H3 hi ⟨p1, p2, vs, p3, p4, p5⟩ ⟨e3, hxi⟩
    rw [e3]
    rw [List.length_map] at hi
    rw [List.getElem?_map, List.getElem?_eq_getElem hi] at hxi
    obtain rfl := Option.some.inj hxi
    have m := List.getElem_mem hi
    have e02 := (e0.trans e1).trans p2
    refine ⟨hw _, ht _ m H2 e02 H2 (Ex.refl H2) _ fun H4 e4 => ?_⟩
    have st : ns.take (i + 1) = ns.take i ++ [ns[i]] := by rw [List.take_add_one, List.getElem?_eq_getElem hi]; rfl
    cases hc : c ns[i] with
    | true =>
      refine iteT (he _ m hc H4 (e02.trans e4) H4 (Ex.refl H4) _ fun H5 e5 => ⟨vs, (e4.trans e5) _ _ p3, sz_lt (by omega), p1, Ex.mut (p2.trans (e4.trans e5)) p1, vs ++ [f ns[i]], upd_same, by rw [List.length_append]; exact Nat.succ_le_succ p4, ?_⟩)
      rw [st, List.filter_append, List.map_append, show [ns[i]].filter c = [ns[i]] by rw [List.filter_cons, hc]; rfl, p5]
      rfl
    | false =>
      refine iteF ⟨p1, p2.trans e4, vs, e4 _ _ p3, Nat.le_succ_of_le p4, ?_⟩
      rw [st, List.filter_append, show [ns[i]].filter c = [] by rw [List.filter_cons, hc]; rfl, List.append_nil]
      exact p5
  · rintro H2 ⟨p1, p2, vs, p3, _, p5⟩
    rw [List.length_map, List.take_of_length_le (Nat.le_refl _)] at p5
    rw [p5] at p3
    exact q D H2 (fresh_back e1 p1) (e1.trans p2) p3⟩
end
section
variable {K : PySem.W.Frag} {CL CS : Addr} {σ : L2.St} {H : Hp} {te ta tb tc : TE} {tr : TA} {tt : TT} {a b g : Addr} {ps qs rs : List (Int × Int)} {room : Int}
end
end Ck

namespace Ck
open PySem PySem.Spec PyProof.Rows L2 StX Evl RZ
end Ck

namespace Ck
open PySem PySem.Spec PyProof.Rows L2 StX Evl RZ
section
variable {K : PySem.W.Frag} {σ : L2.St} {H : Hp} {te ta tb : TE} {xs ys : List V} {ns : List Int}
end
section
variable {K : PySem.W.Frag} {σ : L2.St} {H : Hp} {te : TE} {xs : List V}
end
section
variable {K : PySem.W.Frag} {σ : L2.St} {H : Hp} {ta te : TE} {xs ys : List V} {D : Ends} {z : TS} {l : Addr}
theorem q_forL {g : TG} {body : TS} (h : EvL te σ H xs) (k : ∀ l H1, H l = none → Ex H H1 → H1 l = some (.lst xs) → tFor (iList K (tC (.ref l))) g body { D with nx := z D } σ H1) : tSeq (tFor (iList K te) g body) z D σ H := h H (Ex.refl H) _ fun l H1 n e hl => by
  obtain ⟨a, ea, hx, hw⟩ := k l H1 n e hl
  cases ea
  exact ⟨l, rfl, hx, hw⟩
end
section
variable {K : PySem.W.Frag} {σ : L2.St} {H : Hp} {td ty : TE} {xs ys : List V} {D : Ends} {g : Addr} {ks : List (List Int)} {u : List Int}
end
section
variable {K : PySem.W.Frag} {σ : L2.St} {H : Hp} {te : TE} {l : Addr} {vs : List V} {rs : List (Int × Int)}
end
theorem lst_one {K : PySem.W.Frag} {σ : L2.St} {H : Hp} {te : TE} {xs : List V} {Q : VK} (h : EvU te σ H xs) (q : ∀ p u H1, H p = none → Ex H H1 → H1 p = some (.lst [.ref u]) → SqT K H1 u xs → Q (.ref p) H1) : tLst (tCons te tNil) σ H Q := h H (Ex.refl H) _ fun u H1 _ e1 hu => ⟨(show 1 ≤ sizeLine by decide), fun p np => q p u _ (fresh_back e1 np) (e1.trans (Ex.new np)) upd_same (ex_t (Ex.new np) (SqT.of hu))⟩
theorem pow4_le {a b : Nat} (h : a ≤ b) : (4 : Int) ^ a ≤ 4 ^ b := by
  obtain ⟨k, rfl⟩ := Nat.le.dest h
  induction k with
  | zero => exact Int.le_refl _
  | succ k ih =>
    have z := ih (by omega)
    rw [← Nat.add_assoc, Int.pow_succ]
    have : (0 : Int) ≤ 4 ^ (a + k) := Int.pow_nonneg (by decide)
    omega
def spChM (K : PySem.W.Frag) : Sp := fun vs H Q _ => ∃ (d : Addr) (m : Nat) (s : Int), vs = [.ref d, .int (m : Int), .int s] ∧ 0 < m ∧ m ≤ 10 ∧ 0 < s ∧ s ≤ 100 ∧ Dice H d ∧ ∀ (p : Addr) (ns : List Int) (L : Int) (H' : Hp), Kd d H H' → p ≠ d → SqT K H' p (ns.map V.int) → ns.length ≤ m → Chd ns L → L ≤ s * 4 ^ (m - 1) → Q (.ref p) H'
def spMixV (K : PySem.W.Frag) : Sp := fun vs H Q _ => ∃ (d p : Addr) (xs : List V), vs = [.ref d, .ref p] ∧ p ≠ d ∧ Dice H d ∧ (SqL K H p xs ∨ SqT K H p xs) ∧ xs.length ≤ 1000 ∧ ∀ (l : Addr) (ys : List V) (H' : Hp), Kd d H H' → l ≠ d → H l = none → H' l = some (.lst ys) → ys.Perm xs → Q (.ref l) H'
structure FewM (m : Int) (ns : List Int) (ps : List (Int × Int)) : Prop where
  nd : (ps.map Prod.fst).Nodup
  sub : ∀ p ∈ ps, p.1 ∈ ns ∧ 0 < p.2
  sum : (ps.map Prod.snd).sum ≤ m
  ln : ps.length ≤ ns.length
def spFewM (K : PySem.W.Frag) : Sp := fun vs H Q _ => ∃ (d p : Addr) (m : Int) (ns : List Int), vs = [.ref d, .ref p, .int m] ∧ 0 ≤ m ∧ m ≤ 1000 ∧ p ≠ d ∧ Dice H d ∧ SqT K H p (ns.map V.int) ∧ ns.length ≤ 100 ∧ ns.Nodup ∧ ∀ (q : Addr) (ps : List (Int × Int)) (H' : Hp), Kd d H H' → q ≠ d → H' q = some (.dK (ps.map kc)) → FewM m ns ps → Q (.ref q) H'
structure SmR (g m : Int) (rs : List (Int × Int)) : Prop where
  ok : ∀ r ∈ rs, (0 < r.1 ∧ r.1 ≤ g) ∧ 0 < r.2
  sum : (rs.map fun r => r.2).sum ≤ m
  ln : (rs.length : Int) ≤ m
def spSmS (K : PySem.W.Frag) : Sp := fun vs0 H Q _ => ∃ (d : Addr) (g m : Int), vs0 = [.ref d, .int g, .int m] ∧ 0 < g ∧ g < 1000000 ∧ 0 < m ∧ m ≤ 100 ∧ Dice H d ∧ ∀ l vs rs H', Kd d H H' → l ≠ d → H l = none → H' l = some (.lst vs) → F2 (RP K H') vs rs → SmR g m rs → Q (.ref l) H'
def spMadeG (K : PySem.W.Frag) (C : Addr) : Sp := fun vs H Q _ => ∃ (l : Addr) (vs' : List V) (rs : List (Int × Int)), vs = [.ref l] ∧ SqL K H l vs' ∧ F2 (RP K H) vs' rs ∧ rs.length ≤ 8 ∧ Rns rs ∧ ∀ a H', Ex H H' → StoAt K C H' a (jr rs) → Q (.ref a) H'
theorem perm_ints {ys : List V} {ns : List Int} (h : ys.Perm (ns.map V.int)) : ∃ ms : List Int, ys = ms.map V.int ∧ ms.Perm ns := by
  have : ∀ y ∈ ys, ∃ n, y = V.int n := fun y hy => by
    obtain ⟨n, _, e⟩ := List.mem_map.mp (h.mem_iff.mp hy)
    exact ⟨n, e.symm⟩
  obtain ⟨ms, rfl⟩ : ∃ ms : List Int, ys = ms.map V.int := by
    clear h
    induction ys with
    | nil => exact ⟨[], rfl⟩
    | cons y r ih =>
      obtain ⟨n, rfl⟩ := this y List.mem_cons_self
      obtain ⟨ms, rfl⟩ := ih fun z hz => this z (List.mem_cons_of_mem _ hz)
      exact ⟨n :: ms, rfl⟩
  refine ⟨ms, rfl, ?_⟩
  have z := h.map fun v => match v with | V.int n => n | _ => 0
  rw [List.map_map, List.map_map] at z
  have e : ∀ l : List Int, l.map ((fun v => match v with | V.int n => n | _ => 0) ∘ V.int) = l := fun l => by
    conv => rhs; rw [← List.map_id l]
    rfl
  rw [e, e] at z
  exact z
theorem smr_each {g m : Int} {rs : List (Int × Int)} (h : SmR g m rs) : ∀ r ∈ rs, r.2 ≤ m := fun r hr => by
  have := (snd_each fun r hr => (h.ok r hr).2).2 r hr
  have := h.sum
  omega
theorem smr_rns {g m : Int} {rs : List (Int × Int)} (h : SmR g m rs) (hg : g < 10 ^ 28) (hm : m ≤ 40) : Rns rs := by
  have big : (10 : Int) ^ 28 < 10 ^ 200 := by decide +kernel
  have ln := h.ln
  refine ⟨fun r hr => ?_, by omega, ?_⟩
  · obtain ⟨⟨a, b⟩, c⟩ := h.ok r hr
    have := smr_each h r hr
    exact ⟨siz_of a (by omega), siz_of c (by omega)⟩
  · have := jr_len rs
    omega
theorem smr_sto {g m : Int} {rs : List (Int × Int)} (h : SmR g m rs) (hg : g < 10 ^ 28) (hm : m ≤ 40) : StoOk (jr rs) := by
  have big : (10 : Int) ^ 28 < 10 ^ 200 := by decide +kernel
  have ln := h.ln
  refine ⟨fun r hr => ?_, by have := jr_len rs; omega⟩
  obtain ⟨⟨a, b⟩, c⟩ := jr_bnd (rs := rs) (fun x hx => ⟨siz_of (h.ok x hx).1.1 (by have := (h.ok x hx).1; omega), (h.ok x hx).2⟩) r hr
  have := h.sum
  exact ⟨a, b, by omega⟩
section
variable {K : PySem.W.Frag} {CL CS : Addr} {σ : L2.St} {H : Hp} {te ta tb : TE} {a g l d : Addr} {ps qs rs : List (Int × Int)} {vs : List V} {i : Nat} {Q : VK}
theorem esto_made (h : Ev te σ H (.ref l)) (hl : SqL K H l vs) (hf : F2 (RP K H) vs rs) (hn : rs.length ≤ 8) (hr : Rns rs) : Esto K CS (tCall (spMadeG K CS) [] E0 (tCons te tNil)) σ H (jr rs) := fun H1 e Q q => h H1 e _ fun H2 e2 =>
  ⟨l, vs, rs, rfl, ex_l (e.trans e2) hl, hf.imp fun x b r => r.ex (e.trans e2), hn, hr, fun b H3 e3 hs => q b H3 (e2.trans e3) hs⟩
theorem sms_k {gr m : Int} (h1 : σ[i]? = some (some (.ref d))) (h2 : Ev tb σ H (.int gr)) (g0 : 0 < gr) (g1 : gr < 1000000) (m0 : 0 < m) (m1 : m ≤ 100) (hd : Dice H d) (q : ∀ l vs rs H', Kd d H H' → l ≠ d → H l = none → H' l = some (.lst vs) → F2 (RP K H') vs rs → SmR gr m rs → Q (.ref l) H') :
    tCall (spSmS K) [] E0 (tCons (tVar i) (tCons tb (tCons (tC (.int m)) tNil))) σ H Q := ⟨.ref d, h1, h2 H (Ex.refl H) _ fun H1 e1 => ⟨d, gr, m, rfl, g0, g1, m0, m1, hd.ex e1, fun l vs rs H' k ld nl hl hf hs => q l vs rs H' ((Kd.ex hd e1).trans k) ld (fresh_back e1 nl) hl hf hs⟩⟩
theorem fit_jr (ps rs : List (Int × Int)) : fitB ps (jr rs) = fitB ps rs := by
  unfold fitB
  exact all_same fun s _ => by rw [unt_jr]
end
theorem few_cts {m : Int} {ns : List Int} {ps : List (Int × Int)} (ic : IsC ns) (h : FewM m ns ps) (hm : m ≤ 1000) : Cts ps := ⟨h.nd, Nat.le_trans h.ln ic.le, fun x hx => by
  obtain ⟨a, b⟩ := h.sub x hx
  obtain ⟨n0, n1⟩ := ic.sz _ a
  have := (snd_each fun r hr => (h.sub r hr).2).2 x hx
  have := h.sum
  have big : (1000 : Int) < 10 ^ 200 := by decide +kernel
  exact ⟨siz_of n0 n1, siz_of b (by have : (ps.map fun r => r.2).sum ≤ m := h.sum; omega)⟩⟩
theorem few_lot {m : Int} {ns : List Int} {ps qs : List (Int × Int)} (ic : IsC ns) (h : FewM m ns ps) (hm : m ≤ 1000) (hp : qs.Perm ps) (ha : Asc qs) : LotC qs ∧ ∀ s ∈ qs.map Prod.fst, s ∈ ns := cut_lotC ic (few_cts ic h hm) (fun x hx => (h.sub x hx).1) hp ha
end Ck

namespace Ck
open PySem PySem.Spec PyProof.Rows L2 StX Evl RZ
theorem unt_up {ps : List (Int × Int)} {s u : Int} (s0 : 0 < s) (u0 : 0 < u) (su : s ∣ u) (hp : ∀ p ∈ ps, 0 < p.1 ∧ (s ≤ p.1 → u ∣ p.1)) : unt ps s = unt ps u * (u / s) := by
  induction ps with
  | nil => show (0 : Int) = 0 * _; rw [Int.zero_mul]
  | cons p r ih =>
    rw [unt_cons, unt_cons, Int.add_mul, ih fun q hq => hp q (List.mem_cons_of_mem p hq)]
    obtain ⟨p0, h⟩ := hp p List.mem_cons_self
    congr 1
    obtain ⟨k, rfl⟩ := su
    rw [Int.mul_ediv_cancel_left k (by omega)]
    by_cases c : s ≤ p.1
    · obtain ⟨m, e⟩ := h c
      rw [e, Int.mul_ediv_cancel_left m (by omega), Int.mul_assoc s k m, Int.mul_ediv_cancel_left _ (by omega), Int.mul_comm k m, Int.mul_assoc]
    · have k0 : 0 < k := by
        rcases Int.lt_or_le 0 k with h | h
        · exact h
        · have : s * k ≤ s * 0 := Int.mul_le_mul_of_nonneg_left h (by omega)
          rw [Int.mul_zero] at this
          omega
      have le : s * 1 ≤ s * k := Int.mul_le_mul_of_nonneg_left (by omega) (by omega)
      rw [Int.mul_one] at le
      rw [Int.ediv_eq_zero_of_lt (by omega) (by omega), Int.ediv_eq_zero_of_lt (by omega) (by omega), Int.mul_zero, Int.zero_mul]
theorem key_full {ns : List Int} (hn : Pws ns) {ps rs : List (Int × Int)} (hp : ∀ p ∈ ps, p.1 ∈ ns) (hr : ∀ r ∈ rs, 0 ≤ r.1 ∧ 0 ≤ r.2) : (∀ s ∈ ps.map Prod.fst, unt ps s ≤ unt rs s) ↔ ∀ s ∈ ns, unt ps s ≤ unt rs s := by
  refine ⟨fun h s hs => ?_, fun h s hs => ?_⟩
  · have s0 := hn.pos s hs
    by_cases e : ∃ p ∈ ps, s ≤ p.1
    · obtain ⟨u, hu, su, least⟩ : ∃ u ∈ ps.map Prod.fst, s ≤ u ∧ ∀ p ∈ ps, s ≤ p.1 → u ≤ p.1 := by
        have : ∀ l : List (Int × Int), (∃ p ∈ l, s ≤ p.1) → ∃ u ∈ l.map Prod.fst, s ≤ u ∧ ∀ p ∈ l, s ≤ p.1 → u ≤ p.1 := fun l => by
          induction l with
          | nil => rintro ⟨p, hp, _⟩; cases hp
          | cons q r ih =>
            rintro ⟨p, hp, le⟩
            by_cases c : ∃ p ∈ r, s ≤ p.1
            · obtain ⟨u, h1, h2, h3⟩ := ih c
              by_cases d : s ≤ q.1 ∧ q.1 < u
              · refine ⟨q.1, List.mem_cons_self, d.1, fun x hx le => ?_⟩
                rcases List.mem_cons.mp hx with rfl | hx
                · exact Int.le_refl _
                · have := h3 x hx le
                  omega
              · refine ⟨u, List.mem_cons_of_mem _ h1, h2, fun x hx le => ?_⟩
                rcases List.mem_cons.mp hx with rfl | hx
                · omega
                · exact h3 x hx le
            · rcases List.mem_cons.mp hp with rfl | hp
              · refine ⟨p.1, List.mem_cons_self, le, fun x hx le => ?_⟩
                rcases List.mem_cons.mp hx with rfl | hx
                · exact Int.le_refl _
                · exact absurd ⟨x, hx, le⟩ c
              · exact absurd ⟨p, hp, le⟩ c
        exact this ps e
      obtain ⟨q, hq, rfl⟩ := List.mem_map.mp hu
      have um := hp q hq
      have u0 := hn.pos _ um
      have dv : ∀ a ∈ ns, ∀ b ∈ ns, a ≤ b → a ∣ b := fun a ha b hb le => by
        obtain ⟨i, hi, ei⟩ := List.mem_iff_getElem.mp ha
        obtain ⟨j, hj, ej⟩ := List.mem_iff_getElem.mp hb
        have r := List.pairwise_iff_getElem.mp hn.pw
        rcases Nat.lt_trichotomy i j with h1 | h1 | h1
        · have z := (r i j hi hj h1).2
          rw [ei, ej] at z
          exact z
        · subst h1
          rw [ei] at ej
          rw [ej]
          exact Int.dvd_refl _
        · have z := (r j i hj hi h1).1
          rw [ei, ej] at z
          omega
      rw [unt_up s0 u0 (dv s hs _ um su) fun p hpp => ⟨hn.pos _ (hp p hpp), fun le => dv _ um _ (hp p hpp) (least p hpp le)⟩]
      exact Int.le_trans (Int.mul_le_mul_of_nonneg_right (h _ hu) (Int.ediv_nonneg (by omega) (by omega))) (unt_step s0 u0 (dv s hs _ um su) hr)
    · have z : unt ps s = 0 := by
        have : ∀ l : List (Int × Int), (∀ p ∈ l, 0 ≤ p.1 ∧ p.1 < s) → unt l s = 0 := fun l => by
          induction l with
          | nil => exact fun _ => rfl
          | cons p r ih =>
            intro h
            obtain ⟨a, b⟩ := h p List.mem_cons_self
            rw [unt_cons, ih fun q hq => h q (List.mem_cons_of_mem p hq), Int.ediv_eq_zero_of_lt a b, Int.mul_zero]
            rfl
        refine this ps fun p hpp => ⟨Int.le_of_lt (hn.pos _ (hp p hpp)), ?_⟩
        rcases Int.lt_or_le p.1 s with h | h
        · exact h
        · exact absurd ⟨p, hpp, h⟩ e
      rw [z]
      exact unt_nn s0 hr
  · obtain ⟨p, hpp, rfl⟩ := List.mem_map.mp hs
    exact h _ (hp p hpp)
def sprL (ps rs : List (Int × Int)) (z : Int) : List Int := (((ps.map Prod.fst ++ [z]).filter fun e => decide (e ≤ z)).map fun e => (unt rs e - unt ps e) / (z / e))
def spSpare (K : PySem.W.Frag) (CL CS : Addr) : Sp := fun vs H Q _ => ∃ (a b : Addr) (z : Int) (ps rs : List (Int × Int)), vs = [.ref a, .ref b, .int z] ∧ LotAt K CL H a ps ∧ LotC ps ∧ StoAt K CS H b rs ∧ StoOk rs ∧ sizB z = true ∧ (∀ p ∈ ps, z < p.1 → z ∣ p.1) ∧ gap (uni (ps.map Prod.fst ++ [z])) = none ∧
  (fitB ps rs = false → ∀ H', Ex H H' → Q .non H') ∧ (fitB ps rs = true → ∀ t H', t ∈ sprL ps rs z → (∀ x ∈ sprL ps rs z, t ≤ x) → Ex H H' → Q (.int t) H')
def Spr (ns : List Int) (ps rs : List (Int × Int)) (z t : Int) : Prop := ∀ s ∈ ns, unt ps s + t * (z / s) ≤ unt rs s
theorem spr_iff {ns : List Int} (hn : Pws ns) {ps rs : List (Int × Int)} {z told : Int} (hz : z ∈ ns) (hp : ∀ p ∈ ps, p.1 ∈ ns) (hr : ∀ r ∈ rs, 0 ≤ r.1 ∧ 0 ≤ r.2) (hf : fitB ps rs = true) (m : told ∈ sprL ps rs z) (l : ∀ x ∈ sprL ps rs z, told ≤ x) : 0 ≤ told ∧ ∀ t, 0 ≤ t → (Spr ns ps rs z t ↔ t ≤ told) := by
  have z0 := hn.pos z hz
  have keys : ∀ t, 0 ≤ t → (Spr ns ps rs z t ↔ ∀ e ∈ ps.map Prod.fst ++ [z], unt ps e + t * (z / e) ≤ unt rs e) := fun t ht => by
    have e1 : ∀ s, unt ((z, t) :: ps) s = unt ps s + t * (z / s) := fun s => by rw [unt_cons]; show t * (z / s) + _ = _; omega
    have k := key_full hn (ps := (z, t) :: ps) (rs := rs) (fun p h => by
      rcases List.mem_cons.mp h with rfl | h
      · exact hz
      · exact hp p h) hr
    unfold Spr
    constructor
    · intro h e he
      rcases List.mem_append.mp he with he | he
      · obtain ⟨p, hpp, rfl⟩ := List.mem_map.mp he
        exact h _ (hp p hpp)
      · rw [List.mem_singleton.mp he]
        exact h z hz
    · intro h s hs
      rw [← e1]
      refine k.mp (fun e he => ?_) s hs
      rw [e1]
      rcases List.mem_cons.mp he with rfl | he
      · exact h _ (List.mem_append_right _ (List.mem_singleton.mpr rfl))
      · exact h _ (List.mem_append_left _ he)
  have fit0 : ∀ e ∈ ps.map Prod.fst ++ [z], unt ps e ≤ unt rs e := fun e he => by
    have f : ∀ s ∈ ps.map Prod.fst, unt ps s ≤ unt rs s := fun s hs => of_decide_eq_true (List.all_eq_true.mp hf s hs)
    have full := (key_full hn hp hr).mp f
    rcases List.mem_append.mp he with he | he
    · exact f e he
    · rw [List.mem_singleton.mp he]
      exact full z hz
  have pos : ∀ e ∈ ps.map Prod.fst ++ [z], 0 < e := fun e he => by
    rcases List.mem_append.mp he with he | he
    · obtain ⟨p, hpp, rfl⟩ := List.mem_map.mp he
      exact hn.pos _ (hp p hpp)
    · rw [List.mem_singleton.mp he]
      exact z0
  have one : ∀ e ∈ ps.map Prod.fst ++ [z], e ≤ z → ∀ t : Int, unt ps e + t * (z / e) ≤ unt rs e ↔ t ≤ (unt rs e - unt ps e) / (z / e) := fun e he le t => by
    have k0 : 0 < z / e := Int.lt_of_lt_of_le (show (0 : Int) < 1 by decide) ((Int.le_ediv_iff_mul_le (pos e he)).mpr (by rw [Int.one_mul]; exact le))
    rw [Int.le_ediv_iff_mul_le k0]
    constructor <;> intro h <;> omega
  have iff : ∀ t, 0 ≤ t → (Spr ns ps rs z t ↔ t ≤ told) := fun t ht => by
    rw [keys t ht]
    constructor
    · intro h
      obtain ⟨e, he, rfl⟩ := List.mem_map.mp m
      obtain ⟨m1, c⟩ := List.mem_filter.mp he
      exact (one e m1 (of_decide_eq_true c) t).mp (h e m1)
    · intro h e he
      by_cases c : e ≤ z
      · refine (one e he c t).mpr (Int.le_trans h (l _ ?_))
        exact List.mem_map_of_mem (List.mem_filter.mpr ⟨he, decide_eq_true c⟩)
      · rw [Int.ediv_eq_zero_of_lt (Int.le_of_lt z0) (by omega), Int.mul_zero, Int.add_zero]
        exact fit0 e he
  refine ⟨?_, iff⟩
  refine (iff 0 (Int.le_refl 0)).mp ((keys 0 (Int.le_refl 0)).mpr fun e he => ?_)
  rw [Int.zero_mul, Int.add_zero]
  exact fit0 e he
theorem gap_uni {ns l : List Int} (hn : Pws ns) (h : ∀ x ∈ l, x ∈ ns) : gap (uni l) = none := by
  refine pw_gap (List.Pairwise.imp_of_mem (fun {a b} ha hb (lt : a < b) => ⟨lt, ?_⟩) uni_pw)
  have ma := h a (uni_mem.mp ha)
  have mb := h b (uni_mem.mp hb)
  obtain ⟨i, hi, ei⟩ := List.mem_iff_getElem.mp ma
  obtain ⟨j, hj, ej⟩ := List.mem_iff_getElem.mp mb
  have r := List.pairwise_iff_getElem.mp hn.pw
  rcases Nat.lt_trichotomy i j with h | h | h
  · have z := (r i j hi hj h).2
    rw [ei, ej] at z
    exact Int.emod_eq_zero_of_dvd z
  · subst h
    rw [ei] at ej
    omega
  · have z := (r j i hj hi h).1
    rw [ei, ej] at z
    omega
theorem pws_dvd {ns : List Int} (hn : Pws ns) {a b : Int} (ha : a ∈ ns) (hb : b ∈ ns) (lt : a < b) : a ∣ b := by
  obtain ⟨i, hi, ei⟩ := List.mem_iff_getElem.mp ha
  obtain ⟨j, hj, ej⟩ := List.mem_iff_getElem.mp hb
  have r := List.pairwise_iff_getElem.mp hn.pw
  rcases Nat.lt_trichotomy i j with h | h | h
  · have z := (r i j hi hj h).2
    rw [ei, ej] at z
    exact z
  · subst h
    rw [ei] at ej
    omega
  · have z := (r j i hj hi h).1
    rw [ei, ej] at z
    omega
theorem at_last {ns : List Int} (h : ns ≠ []) : atI (ns.map V.int) (-1) = some (.int (ns.getLast h)) := by
  obtain ⟨r, x, rfl⟩ : ∃ r x, ns = r ++ [x] := ⟨ns.dropLast, ns.getLast h, (List.dropLast_concat_getLast h).symm⟩
  rw [List.getLast_concat, List.map_append]
  exact atI_last _ _
section
variable {K : PySem.W.Frag} {CL CS : Addr} {σ : L2.St} {H : Hp} {te ta tb tc : TE} {a b g : Addr} {ps qs rs : List (Int × Int)} {z : Int} {Q : VK}
theorem spare_c (ha : Elot K CL ta σ H ps) (hb : Esto K CS tb σ H rs) (hc : LotC ps) (ho : StoOk rs) (h3 : Ev tc σ H (.int z)) (hz : sizB z = true) (hd : ∀ p ∈ ps, z < p.1 → z ∣ p.1) (hg : gap (uni (ps.map Prod.fst ++ [z])) = none)
    (q1 : fitB ps rs = false → ∀ H', Ex H H' → Q .non H') (q2 : fitB ps rs = true → ∀ t H', t ∈ sprL ps rs z → (∀ x ∈ sprL ps rs z, t ≤ x) → Ex H H' → Q (.int t) H') : tCall (spSpare K CL CS) [] E0 (tCons ta (tCons tb (tCons tc tNil))) σ H Q := ha H (Ex.refl H) _ fun a H2 e2 hl => hb H2 e2 _ fun b H3 e3 hs => h3 H3 (e2.trans e3) _ fun H4 e4 =>
  have e0 := (e2.trans e3).trans e4
  ⟨a, b, z, ps, rs, rfl, hl.up (e3.trans e4), hc, hs.up e4, ho, hz, hd, hg, fun f H' e => q1 f H' (e0.trans e), fun f t H' m l e => q2 f t H' m l (e0.trans e)⟩
theorem min_ret {tl : TE} {ns : List Int} {D : Ends} (h : EvL tl σ H (ns.map V.int)) (h0 : 0 < ns.length) (k : ∀ m H1, Ex H H1 → m ∈ ns → (∀ y, y ∈ ns → m ≤ y) → D.rt (.int m) H1) : tRet (tCB (rMin K) (tCons tl tNil)) D σ H := h H (Ex.refl H) _ fun p H1 _ e1 hp => ⟨p, ns, rfl, SqL.of hp, h0, fun m hm hl => k m H1 e1 hm hl⟩
end
section
variable {K : PySem.W.Frag} {CL CS : Addr} {σ : L2.St} {H : Hp} {te ta tb tc : TE} {a b g : Addr} {ps qs rs : List (Int × Int)} {z : Int}
end
section
variable {K : PySem.W.Frag} {CL CS : Addr} {σ : L2.St} {H : Hp} {te tl ta tb tc : TE} {ps rs : List (Int × Int)} {z : Int} {ns : List Int} {j : Nat} {ws : List Nat}
end
end Ck

namespace Ck
open PySem PySem.Spec PyProof.Rows L2 StX Evl RZ
section
variable {X : Cx} {K : PySem.W.Frag} {e : Expr} {f : Str} {ta : TE} {pos : Pos}
theorem pe_fldK (hK : X.K = K) (he : PE X e ta) (hb : attributeBase e f X.env (eval e X.env) = eval e X.env) : PE X (.Attribute e f pos) (tFld K ta f) := hK ▸ pe_fld he hb
end
theorem sum_if {f : Int → Int} {k v : Int} : ∀ {D : List Int}, D.Nodup → k ∈ D → (D.map fun n => if k = n then v else f n).sum = (D.map f).sum + (v - f k)
  | n :: D, nd, m => by
    obtain ⟨n1, n2⟩ := List.nodup_cons.mp nd
    rw [List.map_cons, List.sum_cons, List.map_cons, List.sum_cons]
    by_cases c : k = n
    · subst c
      rw [if_pos rfl]
      have e : (D.map fun n => if k = n then v else f n) = D.map f := List.map_congr_left fun x hx => if_neg fun e => n1 (by rw [e]; exact hx)
      rw [e]
      omega
    · rw [if_neg c, sum_if n2 ((List.mem_cons.mp m).resolve_left c)]
      omega
theorem sum_zero {f : Int → Int} : ∀ {D : List Int}, (∀ n ∈ D, f n = 0) → (D.map f).sum = 0
  | [], _ => rfl
  | n :: D, h => by
    rw [List.map_cons, List.sum_cons, h n List.mem_cons_self, sum_zero fun x hx => h x (List.mem_cons_of_mem n hx)]
    rfl
theorem unt_cnt {D : List Int} (hD : D.Nodup) (s : Int) : ∀ {ps : List (Int × Int)}, (ps.map Prod.fst).Nodup → (∀ p ∈ ps, p.1 ∈ D) → unt ps s = (D.map fun n => (cnt ps n).getD 0 * (n / s)).sum
  | [], _, _ => (sum_zero fun n _ => Int.zero_mul _).symm
  | p :: r, nd, h => by
    obtain ⟨n1, n2⟩ := List.nodup_cons.mp nd
    have ih := unt_cnt hD s n2 fun q hq => h q (List.mem_cons_of_mem p hq)
    have cz : cnt r p.1 = none := Ck.cnt_none.mpr n1
    have e : (fun n => (cnt (p :: r) n).getD 0 * (n / s)) = fun n => if p.1 = n then p.2 * (p.1 / s) else (cnt r n).getD 0 * (n / s) := by
      funext n
      show (if p.1 = n then some p.2 else cnt r n).getD 0 * (n / s) = _
      by_cases c : p.1 = n
      · rw [if_pos c, if_pos c, c]
        rfl
      · rw [if_neg c, if_neg c]
    rw [unt_cons, e, sum_if hD (h p List.mem_cons_self), ← ih, cz]
    show _ = _ + (_ - 0 * _)
    rw [Int.zero_mul]
    omega
def sumC (ps qs : List (Int × Int)) (n : Int) : Int := (cnt ps n).getD 0 + (cnt qs n).getD 0
def sumP (ps qs : List (Int × Int)) : List (Int × Int) := merP [] ((ps.map Prod.fst ++ qs.map Prod.fst).map fun n => (n, sumC ps qs n))
def spLotAdd (K : PySem.W.Frag) (C : Addr) : Sp := fun vs H Q _ => ∃ a b ps qs, vs = [.ref a, .ref b] ∧ LotAt K C H a ps ∧ LotAt K C H b qs ∧ ps.length ≤ 12 ∧ qs.length ≤ 12 ∧ Cts (sumP ps qs) ∧ ∀ c ts H', Ex H H' → ts.Perm (sumP ps qs) → Asc ts → LotAt K C H' c ts → Q (.ref c) H'
section
variable {K : PySem.W.Frag} {CL CS : Addr} {σ : L2.St} {H : Hp} {te ta tb : TE} {ps qs ts : List (Int × Int)} {a g : Addr} {Q : VK}
end
section
variable {K : PySem.W.Frag} {σ : L2.St} {H : Hp} {tl te : TE} {tt : TT} {a : Addr} {xs : List V} {j : Nat} {ws : List Nat} {α β : Type} {R : Hp → V → α → Prop} {R' : Hp → V → β → Prop} {as : List α} {c : α → Bool} {e : α → β}
end
section
variable {K : PySem.W.Frag} {CL CS : Addr} {σ : L2.St} {H : Hp} {te ta tb : TE} {ps qs rs : List (Int × Int)} {g g' : Addr} {ns : List Int}
end
end Ck

namespace CZM
open PySem
open PySem.Sem (wp)
open RZ
section
variable {prog : Program} {w : World} {A : Around} {E : Value → Shared → Prop} {s : Shared} {z TI TO T i1 i2 l1 l2 : Addr} {f : Bool} {oT : Obj} {k1 k2 : Nat} {xs ys : Array Value} {x y : Value}
end
section
variable {prog : Program} {w : World} {A : Around} {s : Shared} {R : Result → Shared → Prop} {z TI TO i1 i2 l1 l2 S : Addr} {xs ys : Array Value} {n N : Nat}
end
section
variable {prog : Program} {w : World} {A : Around} {E : Value → Shared → Prop} {s : Shared} {z TI TO i1 i2 l1 l2 : Addr} {xs ys : Array Value} {n : Nat}
end
end CZM
namespace Ck
open PySem PySem.Spec PyProof.Rows L2 StX RZ
end Ck

namespace Ck
open PySem PySem.Spec PyProof.Rows L2 StX Evl RZ
def spNoa (K : PySem.W.Frag) : Sp := fun vs H Q _ => ∃ (t : Addr) (xs : List V) (rs : List (Int × Int)), vs = [.ref t] ∧ SqT K H t xs ∧ F2 (RP K H) xs rs ∧ rs.length ≤ 2000 ∧ ∀ H', Ex H H' → Q (.int (rs.map fun r => r.2).sum) H'
def spLNum (K : PySem.W.Frag) (C : Addr) : Sp := fun vs H Q _ => ∃ a ps, vs = [.ref a] ∧ LotAt K C H a ps ∧ ps.length ≤ 2000 ∧ ∀ H', Ex H H' → Q (.int (ps.map fun r => r.2).sum) H'
section
variable {K : PySem.W.Frag} {CL CS : Addr} {σ : L2.St} {H : Hp} {te ta tb tl : TE} {α : Type} {R : Hp → V → α → Prop} {as : List α} {D : Ends} {z : TS}
theorem ev_lnum {a : Addr} {ps : List (Int × Int)} (h : Ev te σ H (.ref a)) (hl : LotAt K CL H a ps) (hz : ps.length ≤ 2000) : Ev (tProp CL (spLNum K CL) [] E0 te) σ H (.int (ps.map fun r => r.2).sum) := fun H1 e Q q => h H1 e _ fun H2 e2 => by
  obtain ⟨dx, t1, t2, d, ts, h1, _⟩ := (hl.up (e.trans e2)).ex
  exact ⟨a, dx, _, rfl, h1, a, ps, rfl, hl.up (e.trans e2), hz, fun H' e3 => q H' (e2.trans e3)⟩
end
section
variable {K : PySem.W.Frag} {CL CS : Addr} {σ : L2.St} {H : Hp} {te ta tb tc tl : TE} {tt : TT} {ns : List Int} {rs ss : List (Int × Int)} {p a b l : Addr} {j : Nat} {ws : List Nat} {i s m : Int}
end
section
variable {K : PySem.W.Frag} {CL CS : Addr} {σ : L2.St} {H : Hp} {ta tb tc : TE} {ns : List Int} {rs ss : List (Int × Int)} {s0 : Int}
end
end Ck

namespace SrtO
open PySem PySem.Spec PyProof.Rows
section
variable {prog : Program} {w : World} {A : Around} {E : Value → Shared → Prop} {s : Shared}
end
end SrtO
namespace Ck
open PySem PySem.Spec PyProof.Rows L2 StX RZ
section
variable {X : Cx}
end
end Ck

namespace Ck
open PySem PySem.Spec PyProof.Rows L2 StX Evl RZ
section
variable {K : PySem.W.Frag} {CL CS : Addr} {σ : L2.St} {H : Hp} {tl te ta tb tc : TE} {tt : TT} {a p : Addr} {ts : List V} {ps rs ss : List (Int × Int)} {j j2 : Nat} {ws : List Nat} {ns us : List Int}
end
end Ck

namespace Ck
open PySem PySem.Spec PyProof.Rows L2 StX RZ
section
variable {K : PySem.W.Frag} {CL CS : Addr} {σ : L2.St} {H : Hp} {te ta tb : TE} {ps qs rs : List (Int × Int)} {ns : List Int}
end
section
variable {X : Cx} {k j : Nat} {C : Addr} {m : Str} {sp : Sp} {ps : List Str} {o : Expr} {ta : TE} {apos pos : Pos} {pl : Sem Bool}
end
section
variable {K : PySem.W.Frag} {σ : L2.St} {H : Hp} {td : TE} {g : Addr} {ps : List (Int × Int)} {j : Nat} {ws : List Nat}
end
end Ck

namespace Ck
open PySem PySem.Spec PyProof.Rows L2 StX RZ
theorem kv_vals {kvs : List (Key × V)} {vs : List (Key × Value)} (h : KV kvs vs) : Vals (kvs.map (·.2)) (vs.map (·.2)) := by
  refine vals_of_at (by rw [List.length_map, List.length_map]; exact Paired.length h) fun j x u h1 h2 => ?_
  rw [List.getElem?_map] at h1 h2
  obtain ⟨p, hp, rfl⟩ := Option.map_eq_some_iff.mp h1
  obtain ⟨q, hq, rfl⟩ := Option.map_eq_some_iff.mp h2
  obtain ⟨y, hy, r⟩ := LiI.paired_get h hp
  rw [hq] at hy
  obtain rfl := Option.some.inj hy
  exact r.2
def tListVals (te : TE) : TE := fun σ H Q => te σ H fun x H1 => ∃ (d : Addr) (kvs : List (Key × V)), x = .ref d ∧ H1 d = some (.dK kvs) ∧ ∀ p, H1 p = none → Q (.ref p) (upd H1 p (.lst (kvs.map (·.2))))
theorem pe_listVals {X : Cx} {e : Expr} {te : TE} {p pos apos cpos : Pos} (hc : X.calm = true) (he : PE X e te) (hg : Gl X "list") (hm : X.mg "list" = none) (hv : bootBuiltins "list" = some (.type "list") := by exact PyProof.Rows.boot_list) (hbase : attributeBase e "values" X.env (eval e X.env) = eval e X.env := by rfl) (hline : (apos.endLine == cpos.line) = true := by rfl)
    (hs : starEach [.Call (.Attribute e "values" apos) [] [] cpos] X.env = (false, eval (.Call (.Attribute e "values" apos) [] [] cpos) X.env) :: starEach [] X.env := by rfl) :
    PE X (.Call (.Name "list" p) [.Call (.Attribute e "values" apos) [] [] cpos] [] pos) (tListVals te) := by
  refine ⟨fun pins s σ H Q I hq => ?_⟩
  refine wpAny_Call_Name_kw (ld_blt I hg hm hv ?_)
  refine PyProof.Rows.callWith_type1 ?_ hs rfl
  rw [hs]
  show wpAny _ _ (spliced ((false, eval (.Call (.Attribute e "values" apos) [] [] cpos) X.env) :: backTo pos (starEach [] X.env))) _ _ s
  refine Calls.spliced_cons ?_
  refine wpAny_Call_method (T := "dict") (id := "dict.values") hbase rfl hline F.plainAttrs_dict F.slot_dict_values F.type_dict_values (thn (he.run pins s σ H _ I hq) fun u s1 ⟨x, H1, I1, rx, d, kvs, ex, hd, q⟩ => ?_)
  subst ex
  obtain rfl : u = Value.ref d := rx
  obtain ⟨hz, hs0, vs, kv, hdo⟩ := I1.hok d _ hd
  obtain ⟨ep, hat⟩ := hdo.dictAt
  have lk : kvs.length = vs.length := Paired.length kv
  have I2 : Inv X pins σ H1 { s1 with heap := s1.heap.push { cls := .type "dict_values", data := .fields #[.ref d] } } := I1.kept (t' := s1.toks) fun b ob q => Heap.get?_push_of_some _ q
  refine ⟨hdo.typeIs, hdo.mapOf.noDict, ?_⟩
  show wpAny _ _ (callWith cpos (.builtin "dict.values") [.ref d] [] []) _ X.xe s1
  refine method_meetsIn F.slot_dict_values F.entry_dict_values rfl (PySem.evalArgs_none ⟨rfl, hdo.typeIs, F.args_dict_values_1 _, _, meets_dict_values (mixKind X.prog X.w) d hs0, ⟨vs, hdo⟩, ?_⟩)
  refine Calls.spliced_nil ?_
  refine PySem.W.kdl_call (PySem.W.kdl_values (knd := mixKind X.prog X.w) (kvs := vs) (ep := ep)) (I1.ok.hd hc) ⟨⟨_, Heap.get?_push_size _ rfl, rfl, rfl⟩, hat.push _⟩ (by rw [← lk]; exact hz) fun h' tk acc' c' hk hS hacc => ?_
  have ev : acc'.toList = vs.map (·.2) := PySem.W.kdl_vals_eq acc'.toList (by rw [Array.length_toList]; exact hacc.1) fun j v e => hacc.2 j v (by rw [← Array.getElem?_toList]; exact e)
  have up : ∀ b o, s1.heap.get? b = some o → h'.get? b = some o := fun b o e => hk b o (Heap.get?_push_of_some _ e)
  have sz := Heap.size_push s1.heap { cls := .type "dict_values", data := .fields #[.ref d] }
  refine ⟨.ref _, upd H1 _ (.lst (kvs.map (·.2))), I2.laid (t' := tk) hk (Nat.le_refl _) (show ObjOk X.prog X.w _ _ _ (.lst (kvs.map (·.2))) from ⟨by rw [List.length_map]; exact hz, acc'.toList, c', by rw [ev]; exact kv_vals kv, by rw [Array.toArray_toList]; exact hS⟩), rfl, q _ (I2.hok.fresh (Nat.le_refl _))⟩
end Ck

namespace Ck
open PySem PySem.Spec PyProof.Rows L2 StX RZ
section
variable {X : Cx} {pins : List (Addr × Obj)} {σ : L2.St} {H : Hp} {s : Shared}
end
end Ck

namespace Ck
open PySem PySem.Spec PyProof.Rows L2 StX Evl RZ
def mny (s c f l : Int) : Int := (if l < s + c then l else s + c) - (if f > s then f else s)
theorem mny_f (s c f l : Int) : mny s c f l ≤ l - f ∧ mny s c f l ≤ l - s ∧ mny s c f l ≤ s + c - f ∧ mny s c f l ≤ c ∧ (mny s c f l = l - f ∨ mny s c f l = l - s ∨ mny s c f l = s + c - f ∨ mny s c f l = c) := by
  unfold mny
  split <;> split <;> omega
def prt (s f l : Int) : List (Int × Int) → List (Int × Int)
  | [] => []
  | r :: t => (if mny s r.2 f l > 0 then [(r.1, mny s r.2 f l)] else []) ++ prt (s + r.2) f l t
def numR (rs : List (Int × Int)) : Int := (rs.map fun r => r.2).sum
theorem numR_cons (r : Int × Int) (t : List (Int × Int)) : numR (r :: t) = r.2 + numR t := by
  unfold numR
  rw [List.map_cons, List.sum_cons]
theorem numR_nn {rs : List (Int × Int)} (h : ∀ r ∈ rs, 0 < r.2) : 0 ≤ numR rs := (snd_each h).1
theorem prt_sub (f l : Int) : ∀ (rs : List (Int × Int)) (s : Int), ((prt s f l rs).map Prod.fst).Sublist (rs.map Prod.fst)
  | [], _ => List.Sublist.refl _
  | r :: t, s => by
    have ih := prt_sub f l t (s + r.2)
    unfold prt
    split
    · exact ih.cons₂ r.1
    · exact ih.cons r.1
theorem prt_pos {f l : Int} (fl : f ≤ l) : ∀ {rs : List (Int × Int)} {s : Int}, (∀ r ∈ rs, 0 < r.2) → ∀ x ∈ prt s f l rs, 0 < x.2 ∧ ∃ r ∈ rs, x.1 = r.1 ∧ x.2 ≤ r.2
  | [], _, _, x, hx => nomatch hx
  | r :: t, s, h, x, hx => by
    have r0 := h r List.mem_cons_self
    unfold prt at hx
    rcases List.mem_append.mp hx with m | m
    · split at m
      · rename_i c
        rw [List.mem_singleton.mp m]
        refine ⟨c, r, List.mem_cons_self, rfl, ?_⟩
        show mny s r.2 f l ≤ r.2
        unfold mny
        split <;> split <;> omega
      · cases m
    · obtain ⟨a, q, b, c⟩ := prt_pos fl (fun y hy => h y (List.mem_cons_of_mem r hy)) x m
      exact ⟨a, q, List.mem_cons_of_mem r b, c⟩
theorem prt_nil {f l : Int} : ∀ {rs : List (Int × Int)} {s : Int}, (∀ r ∈ rs, 0 < r.2) → l ≤ s → f ≤ s → prt s f l rs = []
  | [], _, _, _, _ => rfl
  | r :: t, s, h, ls, fs => by
    have r0 := h r List.mem_cons_self
    unfold prt
    rw [if_neg (by unfold mny; split <;> split <;> omega), prt_nil (fun x hx => h x (List.mem_cons_of_mem r hx)) (by omega) (by omega)]
    rfl
theorem prt_le {n T : Int} : ∀ {rs : List (Int × Int)} {s : Int}, (∀ r ∈ rs, 0 < r.2) → Asc rs → 0 ≤ s → ∀ x ∈ prt s 0 n rs, ∀ y ∈ prt s n T rs, x.1 ≤ y.1
  | [], _, _, _, _, x, hx, _, _ => nomatch hx
  | r :: t, s, h, as, s0, x, hx, y, hy => by
    have r0 := h r List.mem_cons_self
    have ht : ∀ x ∈ t, 0 < x.2 := fun x hx => h x (List.mem_cons_of_mem r hx)
    obtain ⟨a1, a2⟩ := List.pairwise_cons.mp (show ((r :: t).map Prod.fst).Pairwise (· < ·) from as)
    unfold prt at hx hy
    rcases List.mem_append.mp hx with mx | mx
    · split at mx
      · rw [List.mem_singleton.mp mx]
        rcases List.mem_append.mp hy with my | my
        · split at my
          · rw [List.mem_singleton.mp my]
            exact Int.le_refl _
          · cases my
        · exact Int.le_of_lt (a1 _ ((prt_sub n T t (s + r.2)).subset (List.mem_map_of_mem my)))
      · cases mx
    · rcases List.mem_append.mp hy with my | my
      · split at my
        · rename_i c
          rw [prt_nil ht (by unfold mny at c; split at c <;> split at c <;> omega) (by omega)] at mx
          cases mx
        · cases my
      · exact prt_le ht a2 (by omega) x mx y my
def ffw : Int → List (Int × Int) → List (Int × Int)
  | _, [] => []
  | n, r :: t => (if (if r.2 < n then r.2 else n) > 0 then [(r.1, if r.2 < n then r.2 else n)] else []) ++ ffw (n - (if r.2 < n then r.2 else n)) t
theorem ffw_prt {l : Int} : ∀ {rs : List (Int × Int)} {s : Int}, (∀ r ∈ rs, 0 < r.2) → 0 ≤ s → ffw (if l > s then l - s else 0) rs = prt s 0 l rs
  | [], _, _, _ => rfl
  | r :: t, s, h, s0 => by
    have r0 := h r List.mem_cons_self
    have ih := ffw_prt (l := l) (s := s + r.2) (fun x hx => h x (List.mem_cons_of_mem r hx)) (by omega)
    unfold ffw prt
    rw [← ih]
    have e1 : (if r.2 < (if l > s then l - s else 0) then r.2 else (if l > s then l - s else 0)) = if mny s r.2 0 l > 0 then mny s r.2 0 l else 0 := by
      have a := mny_f s r.2 0 l
      generalize mny s r.2 0 l = A at *
      split <;> split <;> split <;> omega
    rw [e1]
    have e2 : (if l > s then l - s else 0) - (if mny s r.2 0 l > 0 then mny s r.2 0 l else 0) = if l > s + r.2 then l - (s + r.2) else 0 := by
      have a := mny_f s r.2 0 l
      generalize mny s r.2 0 l = A at *
      split <;> split <;> split <;> omega
    rw [e2]
    by_cases c : mny s r.2 0 l > 0
    · rw [if_pos c, if_pos c]
    · rw [if_neg c, if_neg c, if_neg (by omega)]
end Ck

namespace Ck
open PySem PySem.Spec PyProof.Rows L2 StX Evl RZ
end Ck

namespace Ck
open PySem PySem.Spec PyProof.Rows L2 RZ
section
variable {X : Cx} {pins : List (Addr × Obj)} {σ : L2.St} {H : Hp} {s : Shared}
end
section
variable {K : PySem.W.Frag} {H H' : Hp}
end
section
variable {K : PySem.W.Frag} {σ : L2.St} {H H' : Hp} {ta tb te : TE} {tr : TA} {v : V} {d : PyData} {ds es : List PyData} {ps : List (Int × Int)}
end
end Ck

namespace Ck
open PySem PySem.Spec PyProof.Rows L2 RZ Evl
theorem cnt_fil {c : Int × Int → Bool} {s : Int} : ∀ {L : List (Int × Int)}, (L.map Prod.fst).Nodup → cnt (L.filter c) s = (cnt L s).bind fun v => if c (s, v) = true then some v else none
  | [], _ => rfl
  | p :: r, h => by
    obtain ⟨h1, h2⟩ := List.nodup_cons.mp h
    have ih := cnt_fil (c := c) (s := s) h2
    by_cases e : p.1 = s
    · have cr : cnt r s = none := cnt_none.mpr (by rw [← e]; exact h1)
      rw [List.filter_cons]
      conv => rhs; unfold cnt
      rw [if_pos e]
      have ep : (s, p.2) = p := by rw [← e]
      show _ = if c (s, p.2) = true then some p.2 else none
      rw [ep]
      by_cases k : c p = true
      · rw [if_pos k, if_pos k]
        unfold cnt
        rw [if_pos e]
      · rw [if_neg k, if_neg k, ih, cr]
        rfl
    · rw [List.filter_cons]
      conv => rhs; unfold cnt
      rw [if_neg e, ← ih]
      split
      · conv => lhs; unfold cnt
        rw [if_neg e]
      · rfl
theorem cnt_key {L : List (Int × Int)} {s : Int} : s ∈ L.map Prod.fst ↔ (cnt L s).isSome = true := by
  cases h : cnt L s with
  | none =>
    have := cnt_none.mp h
    exact ⟨fun m => absurd m this, fun z => nomatch z⟩
  | some v =>
    refine ⟨fun _ => rfl, fun _ => ?_⟩
    by_cases m : s ∈ L.map Prod.fst
    · exact m
    · rw [cnt_none.mpr m] at h
      cases h
theorem sum_cnt {g : Int → Int} {D : List Int} (hD : D.Nodup) : ∀ {ps : List (Int × Int)}, (ps.map Prod.fst).Nodup → (∀ p ∈ ps, p.1 ∈ D) → (ps.map fun p => p.2 * g p.1).sum = (D.map fun n => (cnt ps n).getD 0 * g n).sum
  | [], _, _ => (sum_zero fun n _ => Int.zero_mul _).symm
  | p :: r, nd, h => by
    obtain ⟨n1, n2⟩ := List.nodup_cons.mp nd
    have ih := sum_cnt (g := g) hD n2 fun q hq => h q (List.mem_cons_of_mem p hq)
    have cz : cnt r p.1 = none := Ck.cnt_none.mpr n1
    have e : (fun n => (cnt (p :: r) n).getD 0 * g n) = fun n => if p.1 = n then p.2 * g p.1 else (cnt r n).getD 0 * g n := by
      funext n
      unfold cnt
      by_cases c : p.1 = n
      · rw [if_pos c, if_pos c, c]; rfl
      · rw [if_neg c, if_neg c]
        cases r <;> rfl
    rw [e, sum_if hD (h p List.mem_cons_self), ← ih, List.map_cons, List.sum_cons, cz]
    show _ = _ + (_ - 0 * _)
    rw [Int.zero_mul]
    omega
section
variable {K : PySem.W.Frag} {σ : L2.St} {H : Hp} {tl te td : TE} {tt : TT} {d : Addr} {ns : List Int} {ps : List (Int × Int)} {j : Nat} {ws : List Nat}
end
end Ck

namespace Ck
open PySem PySem.Spec PyProof.Rows L2 RZ Evl
section
variable {X : Cx}
end
end Ck

namespace Ck
open PySem PySem.Spec PyProof.Rows L2 StX RZ
section
variable {P : Program} {w : World} {K : PySem.W.Frag} {mg : Str → Option Value} {base : Heap}
theorem evr_counts {CL : Addr} {te : TE} {σ : L2.St} {H : Hp} {ps : List (Int × Int)} (h : Elot K CL te σ H ps) : EvR RD (tProp CL (spCounts K CL) [] E0 te) σ H ps := fun H1 e Q q => h H1 e _ fun a H2 e2 hl => by
  obtain ⟨dx, t1, t2, d, ts, h1, _⟩ := hl.ex
  exact ⟨a, dx, _, rfl, h1, a, ps, rfl, hl, fun p H3 e3 np hp => q _ H3 (e2.trans e3) ⟨p, rfl, hp⟩⟩
theorem evr_rd {te : TE} {σ : L2.St} {H : Hp} {d : Addr} {ps : List (Int × Int)} (h : Evl.Ev te σ H (.ref d)) (hd : H d = some (.dK (ps.map kc))) : EvR RD te σ H ps := fun H1 e Q q => h H1 e _ fun H2 e2 => q _ H2 e2 ⟨d, rfl, (e.trans e2) _ _ hd⟩
theorem nod_of {l : List (Int × Int)} (h : (l.map Prod.fst).Nodup) : l.Nodup := List.Pairwise.of_map Prod.fst (fun a b h e => h (congrArg _ e)) h
theorem q_fall {S z : TS} {D : Ends} {σ : L2.St} {H : Hp} (I : L2.St → Hp → Prop) (hz : ∀ σ' H', I σ' H' → z D σ' H') (h : (∀ σ' H', I σ' H' → z D σ' H') → tSeq S z D σ H) : tSeq S z D σ H := h hz
theorem elot_madeR {CL : Addr} {te : TE} {σ : L2.St} {H : Hp} {ps : List (Int × Int)} (h : EvR RD te σ H ps) (ct : Cts ps) : Elot K CL (tCall (spMade K CL) [] E0 (tCons te tNil)) σ H (srt ps) := fun H1 e Q q => h H1 e _ fun x H2 e2 hx => by
  obtain ⟨g, rfl, hg⟩ := hx
  exact ⟨g, ps, rfl, hg, ct, fun a qs H3 e3 hp ha hl => q a H3 (e2.trans e3) (by rw [← asc_unique ha (srt_asc ct.nd) (hp.trans (srt_perm ps).symm)]; exact hl)⟩
end
end Ck

namespace Ck
open PySem PySem.Spec PyProof.Rows L2
section
variable {prog : Program} {w : World} {A : Around} {E : Value → Shared → Prop} {s : Shared} {it t : Addr} {i : Nat} {items : Array Value}
end
section
variable {X : Cx} {pins : List (Addr × Obj)} {σ : L2.St} {H : Hp} {s : Shared}
variable {C fi fl a q : Addr} {fdI fdL : FuncData} {psI psL : List Str} {spI spL : Sp} {n : Nat} {A1 : Around}
end
end Ck

namespace Ck
open PySem PySem.Spec PyProof.Rows L2 RZ
section
variable {P : Program} {w : World} {K : PySem.W.Frag} {mg : Str → Option Value} {base : Heap} {k : Nat} {C : Addr} {x qual : Str} {st : Stmt} {N ps : List Str} {sp : Sp}
end
section
variable {X : Cx} {k j : Nat} {C : Addr} {m : Str} {sp : Sp} {ps : List Str} {e o : Expr} {es : List Expr} {ta : TE} {t : TA} {apos pos : Pos} {pl : Sem Bool} {W : WX}
end
section
variable {X : Cx} {n k j : Nat} {f C : Addr} {fd : FuncData} {ps : List Str} {sp : Sp}
end
section
variable {X : Cx} {pins : List (Addr × Obj)} {σ : L2.St} {H : Hp} {s : Shared}
end
section
variable {K : PySem.W.Frag} {σ : L2.St} {H : Hp} {te ta : TE} {d : PyData}
end
end Ck

namespace Ck
open PySem PySem.Spec PyProof.Rows L2 StX Evl RZ
section
variable {K : PySem.W.Frag} {σ : L2.St} {H H3 : Hp} {ta tb te tl : TE} {tt : TT} {p a b : Addr} {xs ys : List V} {ms ns : List Int} {j j1 j2 : Nat} {ws : List Nat}
theorem sum_rng {α : Type} {f : α → Int} {B : Int} : ∀ {l : List α}, (∀ r ∈ l, 0 ≤ f r ∧ f r ≤ B) → 0 ≤ (l.map f).sum ∧ (l.map f).sum ≤ l.length * B
  | [], _ => ⟨Int.le_refl _, by show (0 : Int) ≤ ((0 : Nat) : Int) * B; omega⟩
  | r :: t, h => by
    obtain ⟨a, b⟩ := sum_rng fun x hx => h x (List.mem_cons_of_mem r hx)
    obtain ⟨c, d⟩ := h r List.mem_cons_self
    have e : ((r :: t).map f).sum = f r + (t.map f).sum := by rw [List.map_cons, List.sum_cons]
    rw [e, List.length_cons, Int.natCast_succ, Int.add_mul, Int.one_mul]
    omega
section
variable {K : PySem.W.Frag} {σ : L2.St} {H : Hp} {tl te : TE} {tt : TT} {xs : List V} {ns : List Int} {j : Nat} {ws : List Nat}
end
end
end Ck

namespace Ck
open PySem PySem.Spec PyProof.Rows L2 StX Evl RZ
section
variable {X : Cx}
end
section
variable {X : Cx}
end
section
variable {K : PySem.W.Frag} {σ : L2.St} {H : Hp} {te : TE} {rs : List (Int × Int)}
end
section
variable {K : PySem.W.Frag} {C : Addr} {p : Int → Bool} {H : Hp} {i : Int} {x : V}
end
end Ck

namespace Ck
def Wsum (ns : List Int) (p f : Int → Int) : Int := (ns.map fun t => p t * f t).sum
def adC (p : Int → Int) (z d : Int) : Int → Int := fun t => if t = z then p t + d else p t
theorem adC_no {ns : List Int} {p f : Int → Int} {z d : Int} (h : z ∉ ns) : Wsum ns (adC p z d) f = Wsum ns p f := by
  unfold Wsum
  refine congrArg List.sum (List.map_congr_left fun t ht => ?_)
  unfold adC
  rw [if_neg (show ¬ t = z from fun e => h (e ▸ ht))]
theorem adC_sum {p f : Int → Int} {z d : Int} : ∀ {ns : List Int}, ns.Nodup → z ∈ ns → Wsum ns (adC p z d) f = Wsum ns p f + d * f z
  | [], _, h => nomatch h
  | t :: r, nd, h => by
    obtain ⟨n1, n2⟩ := List.nodup_cons.mp nd
    have e : ∀ q : Int → Int, Wsum (t :: r) q f = q t * f t + Wsum r q f := fun q => by
      unfold Wsum
      rw [List.map_cons, List.sum_cons]
    rw [e, e]
    by_cases tz : t = z
    · subst tz
      rw [adC_no n1]
      show (if t = t then p t + d else p t) * f t + _ = _
      rw [if_pos rfl, Int.add_mul]
      omega
    · have zr : z ∈ r := (List.mem_cons.mp h).resolve_left fun x => tz x.symm
      rw [adC_sum n2 zr]
      show (if t = z then p t + d else p t) * f t + _ = _
      rw [if_neg tz]
      omega
theorem ws_mono {p q f : Int → Int} : ∀ {ns : List Int}, (∀ t ∈ ns, p t ≤ q t ∧ 0 ≤ f t) → Wsum ns p f ≤ Wsum ns q f
  | [], _ => Int.le_refl _
  | t :: r, h => by
    have ih := ws_mono (ns := r) fun x hx => h x (List.mem_cons_of_mem t hx)
    obtain ⟨a, b⟩ := h t List.mem_cons_self
    have c := Int.mul_le_mul_of_nonneg_right a b
    have e : ∀ q : Int → Int, Wsum (t :: r) q f = q t * f t + Wsum r q f := fun q => by
      unfold Wsum
      rw [List.map_cons, List.sum_cons]
    rw [e, e]
    omega
def Fe (ns : List Int) (U p : Int → Int) : Prop := ∀ s ∈ ns, Wsum ns p (fun t => t / s) ≤ U s
section
variable {ns : List Int} {U c g : Int → Int}
theorem fe_mono (pos : ∀ n ∈ ns, 0 < n) {p q : Int → Int} (h : ∀ t ∈ ns, p t ≤ q t) (hq : Fe ns U q) : Fe ns U p := fun s hs =>
  Int.le_trans (ws_mono fun t ht => ⟨h t ht, Int.ediv_nonneg (Int.le_of_lt (pos t ht)) (Int.le_of_lt (pos s hs))⟩) (hq s hs)
theorem most_step (nd : ns.Nodup) (pos : ∀ n ∈ ns, 0 < n) {z : Int} (hz : z ∈ ns) (gz : g z ≤ c z) (hfe : Fe ns U fun t => if t ≤ z then g t else 0) :
    ∀ (n : Nat) (p : Int → Int), (g z - p z).toNat = n → p z ≤ g z → (∀ t ∈ ns, 0 ≤ p t ∧ p t ≤ c t) → Fe ns U p → (∀ t ∈ ns, t < z → p t = g t) →
      ∃ p' : Int → Int, (∀ t ∈ ns, 0 ≤ p' t ∧ p' t ≤ c t) ∧ Fe ns U p' ∧ (∀ t ∈ ns, t < z → p' t = g t) ∧ p' z = g z ∧ Wsum ns p (fun _ => 1) ≤ Wsum ns p' fun _ => 1 := by
  intro n
  induction n with
  | zero => exact fun p h le b f a => ⟨p, b, f, a, by omega, Int.le_refl _⟩
  | succ n ih =>
    intro p h le b f a
    have lt : p z < g z := by omega
    by_cases ex : ∃ y ∈ ns, z < y ∧ 0 < p y
    · obtain ⟨y, hy, zy, py⟩ := ex
      have az : adC (adC p z 1) y (-1) z = p z + 1 := by
        unfold adC
        rw [if_neg (by omega), if_pos rfl]
      have ao : ∀ t, t ≠ z → t ≠ y → adC (adC p z 1) y (-1) t = p t := fun t h1 h2 => by
        unfold adC
        rw [if_neg h2, if_neg h1]
      have ay : adC (adC p z 1) y (-1) y = p y - 1 := by
        unfold adC
        rw [if_pos rfl, if_neg (by omega)]
        omega
      have sm : ∀ f : Int → Int, Wsum ns (adC (adC p z 1) y (-1)) f = Wsum ns p f + f z - f y := fun f => by
        rw [adC_sum nd hy, adC_sum nd hz]
        omega
      obtain ⟨p', b', f', a', e', s'⟩ := ih (adC (adC p z 1) y (-1)) (by rw [az]; omega) (by rw [az]; omega) (fun t ht => by
        by_cases t1 : t = z
        · subst t1
          rw [az]
          have := b t ht
          omega
        · by_cases t2 : t = y
          · subst t2
            rw [ay]
            have := b t ht
            omega
          · rw [ao t t1 t2]
            exact b t ht) (fun s hs => by
        rw [sm]
        have d := Int.ediv_le_ediv (pos s hs) (Int.le_of_lt zy)
        have := f s hs
        omega) (fun t ht l => by
        rw [ao t (by omega) (by omega)]
        exact a t ht l)
      refine ⟨p', b', f', a', e', ?_⟩
      rw [sm] at s'
      omega
    · have az : adC p z 1 z = p z + 1 := by
        unfold adC
        rw [if_pos rfl]
      have ao : ∀ t, t ≠ z → adC p z 1 t = p t := fun t h1 => by
        unfold adC
        rw [if_neg h1]
      obtain ⟨p', b', f', a', e', s'⟩ := ih (adC p z 1) (by rw [az]; omega) (by rw [az]; omega) (fun t ht => by
        by_cases t1 : t = z
        · subst t1
          rw [az]
          have := b t ht
          omega
        · rw [ao t t1]
          exact b t ht) (fe_mono pos (fun t ht => by
        by_cases t1 : t = z
        · subst t1
          rw [az, if_pos (Int.le_refl _)]
          omega
        · rw [ao t t1]
          by_cases t2 : t < z
          · rw [if_pos (by omega), a t ht t2]
            exact Int.le_refl _
          · rw [if_neg (by omega)]
            have : ¬ 0 < p t := fun x => ex ⟨t, ht, by omega, x⟩
            omega) hfe) (fun t ht l => by
        rw [ao t (by omega)]
        exact a t ht l)
      refine ⟨p', b', f', a', e', Int.le_trans ?_ s'⟩
      rw [adC_sum nd hz]
      omega
theorem most_things_le (asc : ns.Pairwise (· < ·)) (pos : ∀ n ∈ ns, 0 < n) (hg : ∀ z ∈ ns, 0 ≤ g z ∧ g z ≤ c z) (hfe : ∀ z ∈ ns, Fe ns U fun t => if t ≤ z then g t else 0)
    (hmax : ∀ z ∈ ns, g z < c z → ¬ Fe ns U fun t => if t < z then g t else if t = z then g z + 1 else 0) {p : Int → Int} (hb : ∀ t ∈ ns, 0 ≤ p t ∧ p t ≤ c t) (hf : Fe ns U p) :
    Wsum ns p (fun _ => 1) ≤ Wsum ns g fun _ => 1 := by
  have nd : ns.Nodup := asc.imp fun {a b} (h : a < b) (e : a = b) => by omega
  have key : ∀ k, k ≤ ns.length → ∃ p' : Int → Int, (∀ t ∈ ns, 0 ≤ p' t ∧ p' t ≤ c t) ∧ Fe ns U p' ∧ (∀ t ∈ ns.take k, p' t = g t) ∧ Wsum ns p (fun _ => 1) ≤ Wsum ns p' fun _ => 1 := by
    intro k
    induction k with
    | zero => exact fun _ => ⟨p, hb, hf, fun t h => by simp at h, Int.le_refl _⟩
    | succ k ih =>
      intro hk
      obtain ⟨q, b, f, a, s⟩ := ih (by omega)
      have hk' : k < ns.length := by omega
      have hz := List.getElem_mem hk'
      have below : ∀ t ∈ ns, t < ns[k] → t ∈ ns.take k := fun t ht lt => by
        obtain ⟨i, hi, rfl⟩ := List.mem_iff_getElem.mp ht
        have ik : i < k := by
          rcases Nat.lt_or_ge i k with h | h
          · exact h
          · rcases Nat.lt_or_ge k i with h' | h'
            · have := List.pairwise_iff_getElem.mp asc k i hk' hi h'
              omega
            · have e : i = k := by omega
              subst e
              omega
        exact List.mem_take_iff_getElem.mpr ⟨i, by omega, rfl⟩
      have ag : ∀ t ∈ ns, t < ns[k] → q t = g t := fun t ht lt => a t (below t ht lt)
      have le : q ns[k] ≤ g ns[k] := by
        rcases Int.lt_or_le (g ns[k]) (q ns[k]) with h | h
        · have h1 := (b _ hz).2
          refine absurd (fe_mono pos (fun t ht => ?_) f) (hmax _ hz (by omega))
          show (if t < ns[k] then g t else if t = ns[k] then g ns[k] + 1 else 0) ≤ q t
          split
          · rename_i lt
            rw [ag t ht lt]
            exact Int.le_refl _
          · split
            · rename_i e
              rw [e]
              omega
            · exact (b t ht).1
        · exact h
      obtain ⟨p', b', f', a', e', s'⟩ := most_step nd pos hz (hg _ hz).2 (hfe _ hz) _ q rfl le b f ag
      refine ⟨p', b', f', fun t ht => ?_, Int.le_trans s s'⟩
      rw [List.take_add_one, List.getElem?_eq_getElem hk'] at ht
      rcases List.mem_append.mp ht with h | h
      · obtain ⟨i, hi, rfl⟩ := List.mem_take_iff_getElem.mp h
        have lt := List.pairwise_iff_getElem.mp asc i k (by omega) hk' (by omega)
        exact a' _ (List.getElem_mem _) lt
      · have e : t = ns[k] := by simpa using h
        rw [e]
        exact e'
  obtain ⟨p', b', f', a', s'⟩ := key ns.length (Nat.le_refl _)
  rw [List.take_length] at a'
  refine Int.le_trans s' (Int.le_of_eq ?_)
  unfold Wsum
  exact congrArg List.sum (List.map_congr_left fun t ht => by rw [a' t ht])
theorem ws_add {p a b f : Int → Int} (h : ∀ t, p t = a t + b t) : ∀ {ns : List Int}, Wsum ns p f = Wsum ns a f + Wsum ns b f
  | [] => rfl
  | t :: r => by
    have ih := ws_add (f := f) h (ns := r)
    have e : ∀ q : Int → Int, Wsum (t :: r) q f = q t * f t + Wsum r q f := fun q => by
      unfold Wsum
      rw [List.map_cons, List.sum_cons]
    rw [e, e, e, ih, h t, Int.add_mul]
    omega
theorem ws_scale {p f f' : Int → Int} {k : Int} : ∀ {ns : List Int}, (∀ t ∈ ns, p t * f t = k * (p t * f' t)) → Wsum ns p f = k * Wsum ns p f'
  | [], _ => (Int.mul_zero k).symm
  | t :: r, h => by
    have ih := ws_scale (ns := r) fun x hx => h x (List.mem_cons_of_mem t hx)
    have e : ∀ f : Int → Int, Wsum (t :: r) p f = p t * f t + Wsum r p f := fun f => by
      unfold Wsum
      rw [List.map_cons, List.sum_cons]
    rw [e, e, ih, h t List.mem_cons_self, Int.mul_add]
theorem most_total_le (asc : ns.Pairwise (· < ·)) (pos : ∀ n ∈ ns, 0 < n) (dv : ∀ a ∈ ns, ∀ b ∈ ns, a < b → a ∣ b) (hg : ∀ z ∈ ns, 0 ≤ g z ∧ g z ≤ c z) (hfe : ∀ z ∈ ns, Fe ns U fun t => if z ≤ t then g t else 0)
    (hmax : ∀ z ∈ ns, g z < c z → ¬ Fe ns U fun t => if z < t then g t else if t = z then g z + 1 else 0) {p : Int → Int} (hb : ∀ t ∈ ns, 0 ≤ p t ∧ p t ≤ c t) (hf : Fe ns U p) :
    Wsum ns p (fun t => t) ≤ Wsum ns g fun t => t := by
  have nd : ns.Nodup := asc.imp fun {a b} (h : a < b) (e : a = b) => by omega
  cases h : ns.find? (fun z => decide (g z < c z)) with
  | none =>
    have h' := List.find?_eq_none.mp h
    refine ws_mono fun t ht => ⟨?_, Int.le_of_lt (pos t ht)⟩
    have := h' t ht
    have := (hb t ht).2
    simp only [decide_eq_true_eq] at *
    omega
  | some z =>
    obtain ⟨lz, as, bs, e, hl⟩ := List.find?_eq_some_iff_append.mp h
    have lz : g z < c z := of_decide_eq_true lz
    have hz : z ∈ ns := by rw [e]; simp
    have below : ∀ t ∈ ns, t < z → p t ≤ g t := fun t ht lt => by
      have ha : t ∈ as := by
        rw [e] at ht asc
        rcases List.mem_append.mp ht with h | h
        · exact h
        · rcases List.mem_cons.mp h with h | h
          · omega
          · have := (List.pairwise_cons.mp (List.pairwise_append.mp asc).2.1).1 t h
            omega
      have a := hl t ha
      have b := (hb t ht).2
      have a : ¬ g t < c t := by simpa using a
      omega
    have z0 := pos z hz
    obtain ⟨s, hs, hv⟩ : ∃ s ∈ ns, U s < Wsum ns (fun t => if z < t then g t else if t = z then g z + 1 else 0) fun t => t / s := by
      refine Classical.byContradiction fun no => hmax z hz lz fun s hs => ?_
      rcases Int.lt_or_le (U s) (Wsum ns (fun t => if z < t then g t else if t = z then g z + 1 else 0) fun t => t / s) with h | h
      · exact absurd ⟨s, hs, h⟩ no
      · exact h
    have s0 := pos s hs
    -- one more of z
    have one : Wsum ns (fun t => if z < t then g t else if t = z then g z + 1 else 0) (fun t => t / s) = Wsum ns (fun t => if z ≤ t then g t else 0) (fun t => t / s) + z / s := by
      have q : (fun t => if z < t then g t else if t = z then g z + 1 else 0) = adC (fun t => if z ≤ t then g t else 0) z 1 := by
        funext t
        show (if z < t then g t else if t = z then g z + 1 else 0) = if t = z then (if z ≤ t then g t else 0) + 1 else (if z ≤ t then g t else 0)
        by_cases t1 : z < t
        · rw [if_pos t1, if_neg (by omega), if_pos (by omega)]
        · rw [if_neg t1]
          by_cases t2 : t = z
          · rw [if_pos t2, if_pos t2, if_pos (by omega), t2]
          · rw [if_neg t2, if_neg t2, if_neg (by omega)]
      rw [q, adC_sum nd hz]
      omega
    rw [one] at hv
    have gf := hfe z hz s hs
    have sz : s ∣ z := by
      rcases Int.lt_or_le z s with h | h
      · rw [Int.ediv_eq_zero_of_lt (Int.le_of_lt z0) h] at hv
        omega
      · rcases Int.lt_or_eq_of_le h with h | h
        · exact dv s hs z hz h
        · exact h ▸ Int.dvd_refl s
    obtain ⟨m, hm⟩ := sz
    have m0 : 0 < m := by
      rcases Int.lt_or_le 0 m with h | h
      · exact h
      · have := Int.mul_nonneg (Int.le_of_lt s0) (show 0 ≤ -m by omega)
        rw [Int.mul_neg] at this
        omega
    have zm : z / s = m := by rw [hm]; exact Int.mul_ediv_cancel_left m (by omega)
    have sc : ∀ q : Int → Int, Wsum ns (fun t => if z ≤ t then q t else 0) (fun t => t / s) = m * Wsum ns (fun t => if z ≤ t then q t else 0) fun t => t / z := fun q => ws_scale fun t ht => by
      show (if z ≤ t then q t else 0) * (t / s) = m * ((if z ≤ t then q t else 0) * (t / z))
      by_cases le : z ≤ t
      · rw [if_pos le]
        obtain ⟨k, hk⟩ : z ∣ t := by
          rcases Int.lt_or_eq_of_le le with h | h
          · exact dv z hz t ht h
          · exact h ▸ Int.dvd_refl z
        rw [show t / z = k by rw [hk]; exact Int.mul_ediv_cancel_left k (by omega), show t / s = m * k by rw [hk, hm, Int.mul_assoc]; exact Int.mul_ediv_cancel_left _ (by omega), ← Int.mul_assoc, ← Int.mul_assoc, Int.mul_comm (q t) m]
      · rw [if_neg le, Int.zero_mul, Int.zero_mul, Int.mul_zero]
    have pf : Wsum ns (fun t => if z ≤ t then p t else 0) (fun t => t / s) ≤ U s := fe_mono pos (fun t ht => by
      show (if z ≤ t then p t else 0) ≤ p t
      split
      · exact Int.le_refl _
      · exact (hb t ht).1) hf s hs
    rw [sc] at pf
    rw [sc, zm] at hv
    have ba : Wsum ns (fun t => if z ≤ t then p t else 0) (fun t => t / z) ≤ Wsum ns (fun t => if z ≤ t then g t else 0) fun t => t / z := by
      generalize Wsum ns (fun t => if z ≤ t then p t else 0) (fun t => t / z) = B at pf ⊢
      generalize Wsum ns (fun t => if z ≤ t then g t else 0) (fun t => t / z) = A at hv ⊢
      have x : m * B < m * (A + 1) := by rw [Int.mul_add, Int.mul_one]; omega
      have := Int.lt_of_mul_lt_mul_left x (Int.le_of_lt m0)
      omega
    have tz : ∀ q : Int → Int, Wsum ns (fun t => if z ≤ t then q t else 0) (fun t => t) = z * Wsum ns (fun t => if z ≤ t then q t else 0) fun t => t / z := fun q => ws_scale fun t ht => by
      show (if z ≤ t then q t else 0) * t = z * ((if z ≤ t then q t else 0) * (t / z))
      by_cases le : z ≤ t
      · rw [if_pos le]
        obtain ⟨k, hk⟩ : z ∣ t := by
          rcases Int.lt_or_eq_of_le le with h | h
          · exact dv z hz t ht h
          · exact h ▸ Int.dvd_refl z
        rw [show t / z = k by rw [hk]; exact Int.mul_ediv_cancel_left k (by omega), hk, ← Int.mul_assoc, ← Int.mul_assoc, Int.mul_comm (q (z * k)) z]
      · rw [if_neg le, Int.zero_mul, Int.zero_mul, Int.mul_zero]
    have sp : ∀ q : Int → Int, Wsum ns q (fun t => t) = Wsum ns (fun t => if z ≤ t then q t else 0) (fun t => t) + Wsum ns (fun t => if z ≤ t then 0 else q t) fun t => t := fun q => ws_add fun t => by
      show q t = (if z ≤ t then q t else 0) + if z ≤ t then 0 else q t
      split <;> omega
    rw [sp p, sp g, tz, tz]
    have hi := Int.mul_le_mul_of_nonneg_left ba (Int.le_of_lt z0)
    have lo : Wsum ns (fun t => if z ≤ t then 0 else p t) (fun t => t) ≤ Wsum ns (fun t => if z ≤ t then 0 else g t) fun t => t := ws_mono fun t ht => ⟨by
      show (if z ≤ t then 0 else p t) ≤ if z ≤ t then 0 else g t
      split
      · exact Int.le_refl _
      · exact below t ht (by omega), Int.le_of_lt (pos t ht)⟩
    omega
end
def cf (ps : List (Int × Int)) : Int → Int := fun t => (cnt ps t).getD 0
theorem unt_cf {N : List Int} (nd : N.Nodup) {ps : List (Int × Int)} (np : (ps.map Prod.fst).Nodup) (hp : ∀ p ∈ ps, p.1 ∈ N) (s : Int) : unt ps s = Wsum N (cf ps) fun t => t / s := unt_cnt nd s np hp
theorem fe_fit {N : List Int} (hN : Pws N) (nd : N.Nodup) {ps rs : List (Int × Int)} (np : (ps.map Prod.fst).Nodup) (hp : ∀ p ∈ ps, p.1 ∈ N) (hr : ∀ r ∈ rs, 0 ≤ r.1 ∧ 0 ≤ r.2) : fitB ps rs = true ↔ Fe N (unt rs) (cf ps) := by
  have k := key_full hN hp hr
  constructor
  · intro h s hs
    rw [← unt_cf nd np hp]
    exact k.mp (fun s hs => of_decide_eq_true (List.all_eq_true.mp h s hs)) s hs
  · intro h
    refine fit_true (k.mpr fun s hs => ?_)
    rw [unt_cf nd np hp]
    exact h s hs
theorem spr_fe {N : List Int} (nd : N.Nodup) {ps rs : List (Int × Int)} (np : (ps.map Prod.fst).Nodup) (hp : ∀ p ∈ ps, p.1 ∈ N) {z t : Int} (hz : z ∈ N) : Spr N ps rs z t ↔ Fe N (unt rs) (adC (cf ps) z t) := by
  unfold Spr Fe
  refine forall_congr' fun s => forall_congr' fun hs => ?_
  rw [adC_sum nd hz, unt_cf nd np hp]
theorem num_cf {N : List Int} (nd : N.Nodup) {ps : List (Int × Int)} (np : (ps.map Prod.fst).Nodup) (hp : ∀ p ∈ ps, p.1 ∈ N) : (ps.map fun (p : Int × Int) => p.2).sum = Wsum N (cf ps) fun _ => 1 := by
  have z := sum_cnt (g := fun _ => 1) nd np hp
  unfold Wsum cf
  rw [← z]
  exact congrArg List.sum (List.map_congr_left fun p _ => (Int.mul_one p.2).symm)
theorem tot_cf {N : List Int} (nd : N.Nodup) {ps : List (Int × Int)} (np : (ps.map Prod.fst).Nodup) (hp : ∀ p ∈ ps, p.1 ∈ N) : tot ps = Wsum N (cf ps) fun t => t := by
  have z := sum_cnt (g := fun t => t) nd np hp
  unfold Wsum cf
  rw [← z]
  exact congrArg List.sum (List.map_congr_left fun p _ => Int.mul_comm p.1 p.2)
inductive Fil (N : List Int) (c U : Int → Int) : (Int → Int) → List Int → (Int → Int) → Prop
  | nil {g : Int → Int} : Fil N c U g [] g
  | cons {g h : Int → Int} {z : Int} {L : List Int} (d : Int) (d0 : 0 ≤ d) (dc : d ≤ c z) (fe : Fe N U (adC g z d)) (mx : d < c z → ¬ Fe N U (adC g z (d + 1))) (r : Fil N c U (adC g z d) L h) : Fil N c U g (z :: L) h
section
variable {N : List Int} {c U g h : Int → Int}
theorem Fil.snoc {z d : Int} {L : List Int} (f : Fil N c U g L h) (d0 : 0 ≤ d) (dc : d ≤ c z) (fe : Fe N U (adC h z d)) (mx : d < c z → ¬ Fe N U (adC h z (d + 1))) : Fil N c U g (L ++ [z]) (adC h z d) := by
  induction f with
  | nil => exact .cons d d0 dc fe mx .nil
  | cons d1 a b f1 m r ih => exact .cons d1 a b f1 m (ih fe mx)
theorem Fil.keep {L : List Int} (f : Fil N c U g L h) {t : Int} (ht : t ∉ L) : h t = g t := by
  induction f with
  | nil => rfl
  | cons d1 a b f1 m r ih =>
    rw [ih fun x => ht (List.mem_cons_of_mem _ x)]
    unfold adC
    exact if_neg (fun e => ht (by rw [e]; exact List.mem_cons_self))
theorem Fil.at {L : List Int} (f : Fil N c U g L h) : L.Nodup → (∀ t ∈ L, g t = 0) → ∀ as z bs, L = as ++ z :: bs →
    0 ≤ h z ∧ h z ≤ c z ∧ Fe N U (adC (fun t => if t ∈ as then h t else g t) z (h z)) ∧ (h z < c z → ¬ Fe N U (adC (fun t => if t ∈ as then h t else g t) z (h z + 1))) := by
  induction f with
  | nil => exact fun _ _ as z bs e => by cases as <;> cases e
  | @cons g h z0 L d d0 dc fe mx r ih =>
    intro nd hz as z bs e
    obtain ⟨n1, n2⟩ := List.nodup_cons.mp nd
    have h0 : h z0 = d := by
      rw [r.keep n1]
      show (if z0 = z0 then g z0 + d else g z0) = d
      rw [if_pos rfl, hz z0 List.mem_cons_self]
      omega
    cases as with
    | nil =>
      cases e
      have q : (fun t => if t ∈ ([] : List Int) then h t else g t) = g := by
        funext t
        exact if_neg List.not_mem_nil
      rw [q, h0]
      exact ⟨d0, dc, fe, mx⟩
    | cons a as' =>
      cases e
      have q : (fun t => if t ∈ z0 :: as' then h t else g t) = fun t => if t ∈ as' then h t else adC g z0 d t := by
        funext t
        show (if t ∈ z0 :: as' then h t else g t) = if t ∈ as' then h t else if t = z0 then g t + d else g t
        by_cases t1 : t ∈ as'
        · rw [if_pos t1, if_pos (List.mem_cons_of_mem _ t1)]
        · rw [if_neg t1]
          by_cases t2 : t = z0
          · subst t2
            rw [if_pos List.mem_cons_self, if_pos rfl, h0, hz t List.mem_cons_self]
            omega
          · rw [if_neg t2, if_neg fun x => (List.mem_cons.mp x).elim t2 t1]
      rw [q]
      exact ih n2 (fun t ht => by
        show (if t = z0 then g t + d else g t) = 0
        rw [if_neg (show ¬ t = z0 from fun e => n1 (by rw [← e]; exact ht))]
        exact hz t (List.mem_cons_of_mem _ ht)) as' z bs rfl
theorem fe_congr {p q : Int → Int} (pos : ∀ n ∈ N, 0 < n) (e : ∀ t ∈ N, p t = q t) : Fe N U p ↔ Fe N U q :=
  ⟨fe_mono pos fun t ht => Int.le_of_eq (e t ht).symm, fe_mono pos fun t ht => Int.le_of_eq (e t ht)⟩
theorem fil_things (asc : N.Pairwise (· < ·)) (pos : ∀ n ∈ N, 0 < n) (f : Fil N c U (fun _ => 0) N h) {p : Int → Int} (hb : ∀ t ∈ N, 0 ≤ p t ∧ p t ≤ c t) (hf : Fe N U p) :
    Wsum N p (fun _ => 1) ≤ Wsum N h fun _ => 1 := by
  have nd : N.Nodup := asc.imp fun {a b} (h : a < b) (e : a = b) => by omega
  have key : ∀ z ∈ N, ∃ as, (∀ t ∈ N, t ∈ as ↔ t < z) ∧ 0 ≤ h z ∧ h z ≤ c z ∧ Fe N U (adC (fun t => if t ∈ as then h t else 0) z (h z)) ∧ (h z < c z → ¬ Fe N U (adC (fun t => if t ∈ as then h t else 0) z (h z + 1))) := fun z hz => by
    obtain ⟨as, bs, e⟩ := List.append_of_mem hz
    refine ⟨as, fun t ht => ?_, f.at nd (fun _ _ => rfl) as z bs e⟩
    rw [e] at asc ht
    obtain ⟨a1, a2, a3⟩ := List.pairwise_append.mp asc
    constructor
    · exact fun h => a3 t h z List.mem_cons_self
    · intro lt
      rcases List.mem_append.mp ht with h | h
      · exact h
      · rcases List.mem_cons.mp h with h | h
        · omega
        · have := (List.pairwise_cons.mp a2).1 t h
          omega
  refine most_things_le asc pos (fun z hz => ?_) (fun z hz => ?_) (fun z hz lt => ?_) hb hf
  · obtain ⟨as, _, a, b, _⟩ := key z hz
    exact ⟨a, b⟩
  · obtain ⟨as, ha, _, _, fe, _⟩ := key z hz
    refine (fe_congr pos fun t ht => ?_).mp fe
    show (if t = z then (if t ∈ as then h t else 0) + h z else if t ∈ as then h t else 0) = if t ≤ z then h t else 0
    by_cases t1 : t = z
    · rw [if_pos t1, if_neg fun x => by have := (ha t ht).mp x; omega, if_pos (by omega), t1]
      omega
    · rw [if_neg t1]
      by_cases t2 : t < z
      · rw [if_pos ((ha t ht).mpr t2), if_pos (by omega)]
      · rw [if_neg fun x => t2 ((ha t ht).mp x), if_neg (by omega)]
  · obtain ⟨as, ha, _, _, _, mx⟩ := key z hz
    refine fun fe => mx lt ((fe_congr pos fun t ht => ?_).mp fe)
    show (if t < z then h t else if t = z then h z + 1 else 0) = if t = z then (if t ∈ as then h t else 0) + (h z + 1) else if t ∈ as then h t else 0
    by_cases t1 : t = z
    · rw [if_pos t1, if_neg (by omega), if_pos t1, if_neg fun x => by have := (ha t ht).mp x; omega]
      omega
    · rw [if_neg t1, if_neg t1]
      by_cases t2 : t < z
      · rw [if_pos t2, if_pos ((ha t ht).mpr t2)]
      · rw [if_neg t2, if_neg fun x => t2 ((ha t ht).mp x)]
theorem fil_total (asc : N.Pairwise (· < ·)) (pos : ∀ n ∈ N, 0 < n) (dv : ∀ a ∈ N, ∀ b ∈ N, a < b → a ∣ b) (f : Fil N c U (fun _ => 0) N.reverse h) {p : Int → Int} (hb : ∀ t ∈ N, 0 ≤ p t ∧ p t ≤ c t) (hf : Fe N U p) :
    Wsum N p (fun t => t) ≤ Wsum N h fun t => t := by
  have nd : N.Nodup := asc.imp fun {a b} (h : a < b) (e : a = b) => by omega
  have des : N.reverse.Pairwise (· > ·) := List.pairwise_reverse.mpr asc
  have ndr : N.reverse.Nodup := des.imp fun {a b} (h : a > b) (e : a = b) => by omega
  have key : ∀ z ∈ N, ∃ as, (∀ t ∈ N, t ∈ as ↔ z < t) ∧ 0 ≤ h z ∧ h z ≤ c z ∧ Fe N U (adC (fun t => if t ∈ as then h t else 0) z (h z)) ∧ (h z < c z → ¬ Fe N U (adC (fun t => if t ∈ as then h t else 0) z (h z + 1))) := fun z hz => by
    obtain ⟨as, bs, e⟩ := List.append_of_mem (List.mem_reverse.mpr hz)
    refine ⟨as, fun t ht => ?_, f.at ndr (fun _ _ => rfl) as z bs e⟩
    have ht := List.mem_reverse.mpr ht
    rw [e] at des ht
    obtain ⟨a1, a2, a3⟩ := List.pairwise_append.mp des
    constructor
    · exact fun h => a3 t h z List.mem_cons_self
    · intro lt
      rcases List.mem_append.mp ht with h | h
      · exact h
      · rcases List.mem_cons.mp h with h | h
        · omega
        · have := (List.pairwise_cons.mp a2).1 t h
          omega
  refine most_total_le asc pos dv (fun z hz => ?_) (fun z hz => ?_) (fun z hz lt => ?_) hb hf
  · obtain ⟨as, _, a, b, _⟩ := key z hz
    exact ⟨a, b⟩
  · obtain ⟨as, ha, _, _, fe, _⟩ := key z hz
    refine (fe_congr pos fun t ht => ?_).mp fe
    show (if t = z then (if t ∈ as then h t else 0) + h z else if t ∈ as then h t else 0) = if z ≤ t then h t else 0
    by_cases t1 : t = z
    · rw [if_pos t1, if_neg fun x => by have := (ha t ht).mp x; omega, if_pos (by omega), t1]
      omega
    · rw [if_neg t1]
      by_cases t2 : z < t
      · rw [if_pos ((ha t ht).mpr t2), if_pos (by omega)]
      · rw [if_neg fun x => t2 ((ha t ht).mp x), if_neg (by omega)]
  · obtain ⟨as, ha, _, _, _, mx⟩ := key z hz
    refine fun fe => mx lt ((fe_congr pos fun t ht => ?_).mp fe)
    show (if z < t then h t else if t = z then h z + 1 else 0) = if t = z then (if t ∈ as then h t else 0) + (h z + 1) else if t ∈ as then h t else 0
    by_cases t1 : t = z
    · rw [if_pos t1, if_neg (by omega), if_pos t1, if_neg fun x => by have := (ha t ht).mp x; omega]
      omega
    · rw [if_neg t1, if_neg t1]
      by_cases t2 : z < t
      · rw [if_pos t2, if_pos ((ha t ht).mpr t2)]
      · rw [if_neg t2, if_neg fun x => t2 ((ha t ht).mp x)]
end
end Ck

namespace Ck
open PySem PySem.Spec PyProof.Rows L2
def Dfa (K : PySem.W.Frag) (mg : Str → Option Value) (x y : Str) (st : Stmt) (ps : List Str) : Prop :=
  ∃ f fd, Fun K y y st f fd ∧ mg x = some (.ref f) ∧ Binds K fd ps []
section
variable {P : Program} {w : World} {K : PySem.W.Frag} {mg : Str → Option Value} {base : Heap}
theorem cg_ofA {x y : Str} {st : Stmt} {N ps : List Str} {k : Nat} {sp : Sp} (D : Dfa K mg x y st ps) (S : FnScope N ps (defScope st))
    (len : ∀ vs H Q E, sp vs H Q E → vs.length = ps.length)
    (hbody : ∀ (f : Addr) (cdv : Value) (A : Around) (fr : List Env) (s : Shared) (H : Hp) (vs : List V) (Q : VK) (E : XK),
      Room k (A.deeper (envOfC y (defScope st) s.heap.objs.size f cdv)) → A.guards = some [] → sp vs H Q E →
      ∃ t, PSs (cxOf CX0 P w K mg base N y (defScope st) f cdv A fr s H E).nox (defBody st) t ∧
        t { nx := fun _ H' => Q .non H', rt := Q } (start N vs) H) : Cg P w K mg base CX0 (k + 1) x sp := by
  obtain ⟨f, fd, F, g, b⟩ := D
  refine ⟨f, fd, ps, Fun.okG F S len fun cdv A fr s H vs Q E r gd h => ?_, g, F.kp, b⟩
  obtain ⟨t, h1, h2⟩ := hbody f cdv A fr s H vs Q E r gd h
  exact ⟨t, h1.nox, h2⟩
end
end Ck

namespace Ck
section
open PySem PySem.Spec PyProof.Rows L2 StX Evl
def iSeq (K : PySem.W.Frag) (tl : TE) : TI := fun σ H R => tl σ H fun x H1 => ∃ a, x = .ref a ∧ (((∃ xs, SqT K H1 a xs) ∧ R (Itt K a) H1) ∨ ((∃ xs, SqL K H1 a xs) ∧ R (Itl K a) H1))
theorem pi_seq {X : Cx} {tg : Expr} {l : Expr} {tl : TE} (hl : PE X l tl) : PI X tg l (iSeq X.K tl) := by
  refine ⟨fun pins s σ H R I h => ?_⟩
  refine thn (hl.run pins s σ H _ I h) fun v s1 ⟨x, H1, I1, r1, q1⟩ => ?_
  obtain ⟨a, e, q⟩ := q1
  subst e
  cases r1
  rcases q with ⟨⟨xs, hq⟩, q⟩ | ⟨⟨xs, hq⟩, q⟩
  · obtain ⟨its, rv, p, hz⟩ := I1.tuple hq
    refine wpAny_pyIter_tuple (show s1.heap.IsTuple a its.toArray from p) ?_
    refine ⟨s1.heap.objs.size, [s1.heap.objs.size], _, _, H1, rfl, I1.kept (t' := s1.toks) fun b o e => Heap.get?_push_of_some _ e, turn_tuple a _, ⟨_, Heap.get?_push_size _ rfl, rfl, rfl⟩, fun b hb => ?_, q⟩
    have e : b = s1.heap.objs.size := by simpa using hb
    subst e
    exact I1.fpOk (Nat.le_refl _) (I1.hok.fresh (Nat.le_refl _))
  · obtain ⟨its, rv, p, hz⟩ := I1.list hq
    refine wpAny_pyIter_list p.isList ?_
    refine ⟨s1.heap.objs.size, [s1.heap.objs.size], _, _, H1, rfl, I1.kept (t' := s1.toks) fun b o e => Heap.get?_push_of_some _ e, turn_list a _, ⟨_, Heap.get?_push_size _ rfl, rfl, rfl⟩, fun b hb => ?_, q⟩
    have e : b = s1.heap.objs.size := by simpa using hb
    subst e
    exact I1.fpOk (Nat.le_refl _) (I1.hok.fresh (Nat.le_refl _))
theorem s_forQ {K : PySem.W.Frag} {σ : L2.St} {H0 H : Hp} {D : Ends} {g : TG} {tu : TS} {a : Addr} {xs : List V} {tl : TE} (h : Ev tl σ H (.ref a)) (e0 : Ex H0 H) (hx : SqT K H0 a xs ∨ SqL K H0 a xs) (Pv : Nat → L2.St → Hp → Prop) (h0 : ∀ H1, Ex H H1 → Pv 0 σ H1) (hl : ∀ i σ' H', Pv i σ' H' → Ex H0 H')
    (hs : ∀ i x σ' H', xs[i]? = some x → Pv i σ' H' → g x σ' H' fun σ2 H2 => tu { D with nx := Pv (i + 1), ct := Pv (i + 1), bk := D.nx } σ2 H2) (hd : ∀ σ' H', Pv xs.length σ' H' → D.nx σ' H') : tFor (iSeq K tl) g tu D σ H :=
  h H (Ex.refl H) _ fun H1 e => ⟨a, rfl, hx.elim (fun hx => .inl ⟨⟨xs, ex_t (e0.trans e) hx⟩, for_tup Pv (h0 H1 e) (fun i s H' _ p => ex_t (hl i s H' p) hx) hs hd⟩) fun hx => .inr ⟨⟨xs, ex_l (e0.trans e) hx⟩, for_list Pv (h0 H1 e) (fun i s H' _ p => ex_l (hl i s H' p) hx) hs hd⟩⟩
theorem op_inK {X : Cx} {K : PySem.W.Frag} (h : X.K = K) : OpR X (compareOp .In) (rIn K false) := h ▸ op_in_seq
end
end Ck

namespace Ck
section
open PySem PySem.Spec PySem.SeqAt
open PySem.AutoSeq1 (wpAny_loadPart')
open PySem.MeetsSeq PySem.MeetsSeq2 PySem.MeetsSeq3 PySem.SeqRoads2
variable {prog : Program} {w : World}
variable {A : Around} {E : Value → Shared → Prop} {s : Shared}
end
open PySem PySem.Spec PyProof.Rows L2 StX Evl
section
variable {X : Cx}
end
section
variable {K : PySem.W.Frag} {σ : L2.St} {H : Hp} {ta tb : TE} {l : Addr} {qs : List (Int × Int)} {L : List (List (Int × Int))} {xs : List V}
end
end Ck

namespace Ck
open PySem PySem.Spec PyProof.Rows L2 StX Evl
theorem cf_perm {ps qs : List (Int × Int)} (h : (ps.map Prod.fst).Nodup) (p : qs.Perm ps) : cf qs = cf ps := by
  funext t
  unfold cf
  rw [cnt_perm h p]
theorem lotc_pws {qs : List (Int × Int)} (h : LotC qs) : Pws (qs.map Prod.fst) := by
  refine ⟨List.Pairwise.imp_of_mem (fun {a b} ha hb lt => ⟨lt, ?_⟩) h.asc, fun n hn => (cts_pos h.ct n hn).1⟩
  obtain ⟨p, hp, rfl⟩ := List.mem_map.mp hb
  exact h.dv a ha p hp lt
theorem lotc_sub {N : List Int} (hN : Pws N) {ts : List (Int × Int)} (hc : Cts ts) (ha : Asc ts) (hk : ∀ p ∈ ts, p.1 ∈ N) : LotC ts := by
  have key : ∀ x ∈ ts.map Prod.fst, x ∈ N := fun x hx => by
    obtain ⟨p, hp, rfl⟩ := List.mem_map.mp hx
    exact hk p hp
  exact ⟨hc, ha, isC_gap (List.Pairwise.imp_of_mem (fun {a b} h1 h2 lt => Int.emod_eq_zero_of_dvd (pws_dvd hN (key a h1) (key b h2) lt)) ha)⟩
theorem cf_mem {qs : List (Int × Int)} (nd : (qs.map Prod.fst).Nodup) {p : Int × Int} (hp : p ∈ qs) : cf qs p.1 = p.2 := by
  unfold cf
  rw [(cnt_mem nd).mp (show (p.1, p.2) ∈ qs from hp)]
  rfl
theorem cf_nn {qs : List (Int × Int)} (hq : Cts qs) (t : Int) : 0 ≤ cf qs t := by
  unfold cf
  cases e : cnt qs t with
  | none => exact Int.le_refl 0
  | some v => exact Int.le_of_lt (siz_int (hq.ok _ ((cnt_mem hq.nd).mpr e)).2).1
theorem parts_mem : ∀ (n : Nat) (ws : List (Int × Int)), ws.length = n → Asc ws → ∀ X : List (Int × Int), Asc X → (∀ x ∈ X, ∃ y ∈ ws, x.1 = y.1 ∧ 0 < x.2 ∧ x.2 ≤ y.2) → X ∈ partsOf ws
  | 0, ws, hn, hw, X, hX, h => by
    rw [List.eq_nil_of_length_eq_zero hn] at h ⊢
    cases X with
    | nil => exact List.mem_singleton.mpr rfl
    | cons x r =>
      obtain ⟨y, hy, _⟩ := h x List.mem_cons_self
      cases hy
  | n + 1, ws, hn, hw, X, hX, h => by
    have hne : ws ≠ [] := fun e => by rw [e] at hn; cases hn
    have e : ws = ws.dropLast ++ [ws.getLast hne] := (List.dropLast_concat_getLast hne).symm
    have ih := parts_mem n ws.dropLast (by rw [List.length_dropLast, hn]; rfl)
    generalize ws.getLast hne = p at e
    generalize ws.dropLast = us at e ih
    subst e
    unfold Asc at hw
    rw [List.map_append, List.pairwise_append] at hw
    obtain ⟨w1, _, w3⟩ := hw
    have lt : ∀ y ∈ us, y.1 < p.1 := fun y hy => w3 y.1 (List.mem_map_of_mem hy) p.1 (List.mem_singleton.mpr rfl)
    rw [parts_snoc, List.mem_flatMap]
    by_cases ex : ∃ x ∈ X, x.1 = p.1
    · obtain ⟨x, hx, hxp⟩ := ex
      obtain ⟨A, B, rfl⟩ := List.append_of_mem hx
      unfold Asc at hX
      rw [List.map_append, List.pairwise_append] at hX
      obtain ⟨a1, a2, a3⟩ := hX
      have bn : B = [] := by
        cases B with
        | nil => rfl
        | cons z t =>
          have l := (List.pairwise_cons.mp a2).1 z.1 List.mem_cons_self
          obtain ⟨y, hy, hzy, _⟩ := h z (List.mem_append_right _ (List.mem_cons_of_mem _ List.mem_cons_self))
          rcases List.mem_append.mp hy with m | m
          · have := lt y m
            omega
          · rw [List.mem_singleton.mp m] at hzy
            omega
      subst bn
      obtain ⟨y, hy, hxy, x0, x1⟩ := h x hx
      have yp : y = p := by
        rcases List.mem_append.mp hy with m | m
        · have := lt y m
          omega
        · exact List.mem_singleton.mp m
      subst yp
      refine ⟨A, ih w1 A a1 fun a ha => ?_, ?_⟩
      · obtain ⟨b, hb, hab, k⟩ := h a (List.mem_append_left _ ha)
        rcases List.mem_append.mp hb with m | m
        · exact ⟨b, m, hab, k⟩
        · rw [List.mem_singleton.mp m] at hab
          have := a3 a.1 (List.mem_map_of_mem ha) x.1 List.mem_cons_self
          omega
      · refine List.mem_cons_of_mem _ (List.mem_map.mpr ⟨(x.2 - 1).toNat, List.mem_range.mpr (by omega), ?_⟩)
        rw [show (((x.2 - 1).toNat + 1 : Nat) : Int) = x.2 by omega, ← hxy]
    · refine ⟨X, ih w1 X hX fun x hx => ?_, List.mem_cons_self⟩
      obtain ⟨b, hb, hab, k⟩ := h x hx
      rcases List.mem_append.mp hb with m | m
      · exact ⟨b, m, hab, k⟩
      · rw [List.mem_singleton.mp m] at hab
        exact absurd ⟨x, hx, hab⟩ ex
theorem part_of {qs X : List (Int × Int)} (hq : LotC qs) (hX : X ∈ partsOf qs) : LotC X ∧ (∀ p ∈ X, p.1 ∈ qs.map Prod.fst) ∧ ∀ t, 0 ≤ cf X t ∧ cf X t ≤ cf qs t := by
  have sb := parts_keys _ _ rfl X hX
  have hk : ∀ p ∈ X, p.1 ∈ qs.map Prod.fst := fun p hp => sb.subset (List.mem_map_of_mem hp)
  have cx := parts_cts hq.ct hX
  refine ⟨lotc_sub (lotc_pws hq) cx (List.Pairwise.sublist sb hq.asc) hk, hk, fun t => ⟨cf_nn cx t, ?_⟩⟩
  cases e : cnt X t with
  | none =>
    have z := cf_nn hq.ct t
    show (cnt X t).getD 0 ≤ _
    rw [e]
    exact z
  | some v =>
    obtain ⟨y, hy, h1, h2, h3⟩ := parts_ok _ _ rfl X hX (t, v) ((cnt_mem cx.nd).mpr e)
    have h1 : t = y.1 := h1
    show (cnt X t).getD 0 ≤ _
    rw [e, h1, cf_mem hq.ct.nd hy]
    exact h3
theorem of_part {qs fs : List (Int × Int)} (hq : LotC qs) (hf : LotC fs) (hk : ∀ p ∈ fs, p.1 ∈ qs.map Prod.fst) (hb : ∀ t ∈ qs.map Prod.fst, cf fs t ≤ cf qs t) : fs ∈ partsOf qs := by
  refine parts_mem _ _ rfl hq.asc fs hf.asc fun x hx => ?_
  obtain ⟨y, hy, e⟩ := List.mem_map.mp (hk x hx)
  have k := hb x.1 (hk x hx)
  rw [cf_mem hf.ct.nd hx, ← e, cf_mem hq.ct.nd hy] at k
  exact ⟨y, hy, e.symm, (siz_int (hf.ct.ok x hx).2).1, k⟩
theorem fil_le {N L : List Int} {c U g h : Int → Int} (f : Fil N c U g L h) (nd : L.Nodup) (hz : ∀ t ∈ L, g t = 0) : ∀ t ∈ L, h t ≤ c t := fun t ht => by
  obtain ⟨as, bs, e⟩ := List.append_of_mem ht
  exact (f.at nd hz as t bs e).2.1
section
variable {qs rs fs X : List (Int × Int)}
theorem sto_nn (hr : StoOk rs) : ∀ r ∈ rs, 0 ≤ r.1 ∧ 0 ≤ r.2 := fun r h => by
  obtain ⟨x, y, z⟩ := hr.ok r h
  have := (siz_int x).1
  omega
theorem part_fe (hq : LotC qs) (hr : StoOk rs) (hX : LotC X) (hk : ∀ p ∈ X, p.1 ∈ qs.map Prod.fst) (fx : fitB X rs = true) : Fe (qs.map Prod.fst) (unt rs) (cf X) := (fe_fit (lotc_pws hq) hq.ct.nd hX.ct.nd hk (sto_nn hr)).mp fx
theorem lot_asc (hq : LotC qs) : (qs.map Prod.fst).Pairwise (· < ·) := hq.asc
theorem lot_pos (hq : LotC qs) : ∀ n ∈ qs.map Prod.fst, 0 < n := fun n hn => (cts_pos hq.ct n hn).1
theorem num_of (hq : LotC qs) (hX : LotC X) (hk : ∀ p ∈ X, p.1 ∈ qs.map Prod.fst) : numR X = Wsum (qs.map Prod.fst) (cf X) fun _ => 1 := num_cf hq.ct.nd hX.ct.nd hk
theorem best_things (hq : LotC qs) (hr : StoOk rs) (hf : LotC fs) (hk : ∀ p ∈ fs, p.1 ∈ qs.map Prod.fst) (f : Fil (qs.map Prod.fst) (cf qs) (unt rs) (fun _ => 0) (qs.map Prod.fst) (cf fs)) :
    fs ∈ partsOf qs ∧ ∀ X ∈ partsOf qs, fitB X rs = true → numR X ≤ numR fs := by
  refine ⟨of_part hq hf hk (fil_le f hq.ct.nd fun _ _ => rfl), fun X hX fx => ?_⟩
  obtain ⟨lx, kx, bx⟩ := part_of hq hX
  rw [num_of hq lx kx, num_of hq hf hk]
  exact fil_things (lot_asc hq) (lot_pos hq) f (fun t _ => bx t) (part_fe hq hr lx kx fx)
theorem best_total (hq : LotC qs) (hr : StoOk rs) (hf : LotC fs) (hk : ∀ p ∈ fs, p.1 ∈ qs.map Prod.fst) (f : Fil (qs.map Prod.fst) (cf qs) (unt rs) (fun _ => 0) (qs.map Prod.fst).reverse (cf fs)) :
    fs ∈ partsOf qs ∧ ∀ X ∈ partsOf qs, fitB X rs = true → tot X ≤ tot fs := by
  refine ⟨of_part hq hf hk fun t ht => fil_le f ((List.Perm.nodup_iff (List.reverse_perm _)).mpr hq.ct.nd) (fun _ _ => rfl) t (List.mem_reverse.mpr ht), fun X hX fx => ?_⟩
  obtain ⟨lx, kx, bx⟩ := part_of hq hX
  rw [tot_cf hq.ct.nd lx.ct.nd kx, tot_cf hq.ct.nd hf.ct.nd hk]
  exact fil_total (lot_asc hq) (lot_pos hq) (fun a ha b hb lt => pws_dvd (lotc_pws hq) ha hb lt) f (fun t _ => bx t) (part_fe hq hr lx kx fx)
theorem lot_cf (h1 : LotC fs) (h2 : LotC X) (e : ∀ t, cf fs t = cf X t) : fs = X := by
  have key : ∀ {a b : List (Int × Int)}, LotC a → LotC b → (∀ t, cf a t = cf b t) → ∀ p ∈ a, p ∈ b := fun {a b} ha hb e p hp => by
    have k := e p.1
    rw [cf_mem ha.ct.nd hp] at k
    have p0 := (siz_int (ha.ct.ok p hp).2).1
    unfold cf at k
    cases hc : cnt b p.1 with
    | none =>
      rw [hc] at k
      have k : p.2 = 0 := k
      omega
    | some v =>
      rw [hc] at k
      have k : p.2 = v := k
      have m := (cnt_mem hb.ct.nd).mpr hc
      rw [← k] at m
      exact m
  refine asc_unique h1.asc h2.asc ((List.perm_ext_iff_of_nodup (nod_of h1.ct.nd) (nod_of h2.ct.nd)).mpr fun p => ⟨key h1 h2 e p, key h2 h1 (fun t => (e t).symm) p⟩)
end
end Ck

namespace Ck
open PySem PySem.Spec PyProof.Rows L2 StX Evl RZ
section
variable {K : PySem.W.Frag} {σ : L2.St} {H : Hp} {d : Addr} {tl te : TE} {tt : TT} {ns : List Int} {j : Nat} {ws : List Nat}
end
section
variable {X : Cx}
end
section
variable {X : Cx}
variable {K : PySem.W.Frag} {σ : L2.St} {H : Hp} {tl te : TE} {l : Addr} {xs : List V} {j : Nat} {ws : List Nat}
end
def Fit (qs ss : List (Int × Int)) : List (List (Int × Int)) := (partsOf qs).filter fun X => fitB X ss
def TopN (ns : List Int) (n : Int) : Prop := n ∈ ns ∧ ∀ y ∈ ns, y ≤ n
section
variable {qs ss fs X : List (Int × Int)} {n : Int}
theorem fit_mem : X ∈ Fit qs ss ↔ X ∈ partsOf qs ∧ fitB X ss = true := List.mem_filter
theorem top_eq (f : List (Int × Int) → Int) (h : TopN ((Fit qs ss).map f) n) (hf : fs ∈ Fit qs ss) (hb : ∀ X ∈ partsOf qs, fitB X ss = true → f X ≤ f fs) : f fs = n := by
  obtain ⟨h1, h2⟩ := h
  obtain ⟨X, hX, e⟩ := List.mem_map.mp h1
  have a := hb X (fit_mem.mp hX).1 (fit_mem.mp hX).2
  have b := h2 (f fs) (List.mem_map_of_mem hf)
  omega
theorem part_num (hq : LotC qs) (hX : X ∈ partsOf qs) : 0 ≤ numR X ∧ numR X ≤ numR qs := by
  obtain ⟨lx, kx, bx⟩ := part_of hq hX
  refine ⟨numR_nn fun r hr => (siz_int (lx.ct.ok r hr).2).1, ?_⟩
  rw [num_of hq lx kx, num_of hq hq fun p hp => List.mem_map_of_mem hp]
  exact ws_mono fun t _ => ⟨(bx t).2, by decide⟩
end
end Ck

namespace Ck
open PySem PySem.Spec PyProof.Rows L2 StX Evl
section
variable {N : List Int} {c U h : Int → Int}
end
section
variable {ps qs ss X : List (Int × Int)} {N : List Int} {z n : Int}
end
section
variable {X : Cx} {e : Expr} {te : TE} {p apos cpos pos : Pos}
open LiI
end
section
variable {K : PySem.W.Frag} {σ : L2.St} {H : Hp} {te tl : TE} {d : Addr} {qs : List (Int × Int)}
end
section
end
end Ck

namespace Ck
open PySem PySem.Spec PyProof.Rows L2 StX Evl RZ
theorem fnb1 {x qual : Str} {st : Stmt} {ps : List Str} (e : ps.length = 1) (h : ∀ (kV doc pm : Value) (an : Option Addr) (cdv ct : Value) (a0 : Value), bindArgs (PySem.W.fnOf x qual (defArgs st) (defBody st) (defScope st) .none kV doc pm an cdv ct) ⟨[a0], []⟩ = pure (ps.zip [a0])) : ∀ (kV doc pm : Value) (an : Option Addr) (cdv ct : Value) (us : List Value), us.length = ps.length → bindArgs (PySem.W.fnOf x qual (defArgs st) (defBody st) (defScope st) .none kV doc pm an cdv ct) ⟨us, []⟩ = pure (ps.zip us) := by
  intro kV doc pm an cdv ct us hl
  rw [e] at hl
  match us, hl with
  | [a0], _ => exact h kV doc pm an cdv ct a0
theorem fnb2 {x qual : Str} {st : Stmt} {ps : List Str} (e : ps.length = 2) (h : ∀ (kV doc pm : Value) (an : Option Addr) (cdv ct : Value) (a0 a1 : Value), bindArgs (PySem.W.fnOf x qual (defArgs st) (defBody st) (defScope st) .none kV doc pm an cdv ct) ⟨[a0, a1], []⟩ = pure (ps.zip [a0, a1])) : ∀ (kV doc pm : Value) (an : Option Addr) (cdv ct : Value) (us : List Value), us.length = ps.length → bindArgs (PySem.W.fnOf x qual (defArgs st) (defBody st) (defScope st) .none kV doc pm an cdv ct) ⟨us, []⟩ = pure (ps.zip us) := by
  intro kV doc pm an cdv ct us hl
  rw [e] at hl
  match us, hl with
  | [a0, a1], _ => exact h kV doc pm an cdv ct a0 a1
theorem fnb3 {x qual : Str} {st : Stmt} {ps : List Str} (e : ps.length = 3) (h : ∀ (kV doc pm : Value) (an : Option Addr) (cdv ct : Value) (a0 a1 a2 : Value), bindArgs (PySem.W.fnOf x qual (defArgs st) (defBody st) (defScope st) .none kV doc pm an cdv ct) ⟨[a0, a1, a2], []⟩ = pure (ps.zip [a0, a1, a2])) : ∀ (kV doc pm : Value) (an : Option Addr) (cdv ct : Value) (us : List Value), us.length = ps.length → bindArgs (PySem.W.fnOf x qual (defArgs st) (defBody st) (defScope st) .none kV doc pm an cdv ct) ⟨us, []⟩ = pure (ps.zip us) := by
  intro kV doc pm an cdv ct us hl
  rw [e] at hl
  match us, hl with
  | [a0, a1, a2], _ => exact h kV doc pm an cdv ct a0 a1 a2
theorem fnb4 {x qual : Str} {st : Stmt} {ps : List Str} (e : ps.length = 4) (h : ∀ (kV doc pm : Value) (an : Option Addr) (cdv ct : Value) (a0 a1 a2 a3 : Value), bindArgs (PySem.W.fnOf x qual (defArgs st) (defBody st) (defScope st) .none kV doc pm an cdv ct) ⟨[a0, a1, a2, a3], []⟩ = pure (ps.zip [a0, a1, a2, a3])) : ∀ (kV doc pm : Value) (an : Option Addr) (cdv ct : Value) (us : List Value), us.length = ps.length → bindArgs (PySem.W.fnOf x qual (defArgs st) (defBody st) (defScope st) .none kV doc pm an cdv ct) ⟨us, []⟩ = pure (ps.zip us) := by
  intro kV doc pm an cdv ct us hl
  rw [e] at hl
  match us, hl with
  | [a0, a1, a2, a3], _ => exact h kV doc pm an cdv ct a0 a1 a2 a3
end Ck

namespace Ck
open PySem PySem.Spec PyProof.Rows L2 StX Evl RZ
section
open LiI
theorem paired_imp {α β : Type} {F G : α → β → Prop} (h : ∀ {a b}, F a b → G a b) : ∀ {xs : List α} {ys : List β}, Paired F xs ys → Paired G xs ys
  | _, _, .nil => .nil
  | _, _, .cons r t => .cons (h r) (paired_imp h t)
theorem pairs_laid {pins : List (Addr × Obj)} {σ : L2.St} {H : Hp} {s : Shared} {X : Cx} {h' : Heap} {tk : Nat} {kvs : List (Key × V)} {vs : List (Key × Value)} {as : List Addr} (I : Inv X pins σ H s) (kv : KV kvs vs)
    (hk : ∀ b o, s.heap.get? b = some o → h'.get? b = some o) (hl : as.length = vs.length) (hG : PySem.W.KdxG (mixKind X.prog X.w) vs s.heap.objs.size h' as) :
    ∃ H' : Hp, (∀ b o, H b = some o → H' b = some o) ∧ (∀ t ∈ as, H t = none) ∧ (∀ b, s.heap.objs.size ≤ b → b ∉ as → H' b = none) ∧ Paired (fun (t : Addr) (q : Key × V) => H' t = some (.tup [kV q.1, q.2])) as kvs ∧ Inv X pins σ H' { s with heap := h', toks := tk } := by
  have lk : kvs.length = vs.length := Paired.length kv
  have nd : as.Nodup := List.Pairwise.imp (fun {a b} (h : a < b) => Nat.ne_of_lt h) hG.rise
  have new : ∀ t ∈ as, H t = none := fun t ht => I.hok.fresh (Nat.le_of_lt (hG.above t ht))
  have atP := putT_at as kvs H (by omega) nd
  have off : ∀ b, b ∉ as → putT H as kvs b = H b := fun b h1 => putT_off as kvs H h1
  have low : ∀ b o, s.heap.get? b = some o → b ∉ as := fun b o e z => absurd (Heap.lt_size e) (Nat.not_lt.mpr (Nat.le_of_lt (hG.above b z)))
  have kp : ∀ b u, H b = some u → (putT H as kvs) b = some u := fun b u e => by
    rw [off b (fun z => by rw [new b z] at e; cases e)]
    exact e
  refine ⟨putT H as kvs, kp, new, fun b h1 h2 => by rw [off b h2]; exact I.hok.fresh h1, atP, ?_⟩
  refine I.call' (ch := []) rfl ⟨fun b o q _ _ _ => hk b o q, fun b o q _ _ _ => ⟨o.slots, hk b o q⟩, fun b o q n _ => ?_, fun b o q _ => ⟨o, hk b o q⟩, fun b xs q => kp b _ q, fun b o u q => kp b _ q, fun b ps q => ⟨#[], by rw [kp b _ q]; simp⟩⟩ (fun b u q => ?_) I.bare fun b z => by simp at z
  · rw [off b (low b o q)]
    exact n
  · by_cases hb : b ∈ as
    · obtain ⟨j, pk, e1, e2, e3⟩ := paired_ix atP hb
      rw [e3] at q
      cases q
      obtain ⟨key, k, x, f1, f2, f3⟩ := hG.pairs j b e1
      obtain ⟨qv, g1, g2, g3⟩ := LiI.paired_get kv e2
      rw [f1] at g1
      cases g1
      have rk : RelV (kV pk.1) key := by
        rw [g2]
        exact relV_key (show keyIs k key = true from f2)
      exact ⟨by show 2 ≤ sizeLine; decide, [key, x], .cons rk (.cons g3 .nil), ⟨_, f3, rfl, _, rfl⟩⟩
    · rw [off b hb] at q
      exact (I.hok b u q).stay (fun d v _ y => hk d v y) (fun d y => kp d _ y) fun d xs y => kp d _ y
end
section
variable {prog : Program} {w : World} {KT : Type} [DecidableEq KT] {knd : KeyKind prog w KT} {A : Around} {E : Value → Shared → Prop} {s : Shared} {r d : Addr} {kvs : List (KT × Value)} {ep : Nat}
theorem code_tuple_new_items {Q₁ : Value → Shared → Prop} (hh : A.handled = none) (hv : s.heap.IsItemsView r d) (hm : s.heap.DictAt knd d kvs ep) (hn : kvs.length ≤ sizeLine)
    (h : ∀ (h' : Heap) (tk : Nat) (as : List Addr), (∀ b o, s.heap.get? b = some o → h'.get? b = some o) → as.length = kvs.length → PySem.W.KdxG knd kvs s.heap.objs.size h' as →
      Q₁ (.ref h'.objs.size) { s with heap := h'.push { cls := .type "tuple", data := .seq (as.map Value.ref).toArray }, toks := tk }) :
    codeAny (model prog w) A (.call (.builtin "tuple.__new__") ⟨[.type "tuple", .ref r], []⟩) (wants Q₁ E) s := by
  refine codeAny_of_tree ?_
  show wpAny _ A.in1 (do checkBuiltinCall "tuple.__new__" ⟨[.type "tuple", .ref r], []⟩; again (.builtin "tuple.__new__" ⟨[.type "tuple", .ref r], []⟩)) _ _ s
  refine wpAny_bind (wpAny_of_eq (F.newCall_tuple_1 _) (wpAny_pure ⟨plainId_quiet F.plain_tuple_new _, codeAny_builtin F.entry_tuple_new ?_⟩))
  rw [Around.under_plainId F.plain_tuple_new _]
  have hsub := sub_tuple_self
  have hinit := init_tuple_lookup
  have hmh := madeHere_tuple
  have hTI : s.TypeIs (.ref r) "dict_items" := hv.typeIs
  have hh1 : A.in1.handled = none := hh
  wp_walk using wpAny_typeOf hTI, PySem.W.kdx_collect (A := A.in1) (knd := knd) hh1 hv hm hn
  intro h' tk as hk hl hG
  show wpAny _ _ (Builtin.Tuple.tupleExact (as.map Value.ref).toArray >>= fun v => ret v) _ _ _
  unfold Builtin.Tuple.tupleExact
  refine wpAny_bind (wpAny_newObj_type ?_ (by show (as.map Value.ref).toArray.size ≤ sizeLine; rw [List.size_toArray, List.length_map, hl]; exact hn))
  exact wpAny_pure (h h' tk as hk hl hG)
theorem call_tuple_items {Q : Value → Shared → Prop} (hh : A.handled = none) (hv : s.heap.IsItemsView r d) (hm : s.heap.DictAt knd d kvs ep) (hn : kvs.length ≤ sizeLine)
    (hQ : ∀ (h' : Heap) (tk : Nat) (as : List Addr), (∀ b o, s.heap.get? b = some o → h'.get? b = some o) → as.length = kvs.length → PySem.W.KdxG knd kvs s.heap.objs.size h' as →
      Q (.ref h'.objs.size) { s with heap := h'.push { cls := .type "tuple", data := .seq (as.map Value.ref).toArray }, toks := tk }) :
    wpAny (model prog w) A (call (.type "tuple") [.ref r]) Q E s := by
  refine callType_codes (Q₁ := fun obj s₁ => s₁.TypeIs obj "tuple" ∧ Q obj s₁) F.called_tuple (F.typeCall_tuple_1 _) F.entry_object_init
    (code_tuple_new_items (A := A.in1) (knd := knd) hh hv hm hn fun h' tk as hk hl hG => ⟨⟨_, Heap.get?_push_size _ rfl, rfl⟩, hQ h' tk as hk hl hG⟩) fun obj s₁ h₁ => ?_
  exact ⟨h₁.1, F.args_object_init_2 obj _, object_init_meets F.called_tuple.init.lookup F.called_tuple.made (by decide) prog w A.in1 _ s₁ ⟨h₁.1, rfl, h₁.2⟩⟩
end
section
variable {X : Cx} {e : Expr} {te : TE} {p apos cpos pos : Pos}
open LiI
def rItemsT : V → Hp → VK → Prop := fun x H Q => ∃ (d : Addr) (kvs : List (Key × V)), x = .ref d ∧ Rd H d (.dK kvs) ∧
  ∀ (H' : Hp) (p : Addr) (ts : List Addr), (∀ b o, H b = some o → H' b = some o) → H p = none → (∀ t ∈ ts, H t = none) → H' p = some (.tup (ts.map V.ref)) → Paired (fun (t : Addr) (q : Key × V) => H' t = some (.tup [kV q.1, q.2])) ts kvs → Q (.ref p) H'
def tTupItems (te : TE) : TE := fun σ H Q => te σ H fun x H1 => rItemsT x H1 Q
theorem pe_tupItems (hc : X.calm = true) (he : PE X e te) (hg : Gl X "tuple") (hm : X.mg "tuple" = none) (hbase : attributeBase e "items" X.env (eval e X.env) = eval e X.env := by rfl) (hline : (apos.endLine == cpos.line) = true := by rfl)
    (hs : starEach [.Call (.Attribute e "items" apos) [] [] cpos] X.env = (false, eval (.Call (.Attribute e "items" apos) [] [] cpos) X.env) :: starEach [] X.env := by rfl) :
    PE X (.Call (.Name "tuple" p) [.Call (.Attribute e "items" apos) [] [] cpos] [] pos) (tTupItems te) := by
  refine ⟨fun pins s σ H Q I hq => ?_⟩
  refine wpAny_Call_Name_kw (ld_blt I hg hm boot_tuple ?_)
  refine PyProof.Rows.callWith_type1 ?_ hs rfl
  rw [hs]
  show wpAny _ _ (spliced ((false, eval (.Call (.Attribute e "items" apos) [] [] cpos) X.env) :: backTo pos (starEach [] X.env))) _ _ s
  refine Calls.spliced_cons ?_
  refine wpAny_Call_method (T := "dict") (id := "dict.items") hbase rfl hline F.plainAttrs_dict F.slot_dict_items F.type_dict_items (thn (he.run pins s σ H _ I hq) fun u s1 ⟨x, H1, I1, rx, d, kvs, ex, hd, q⟩ => ?_)
  subst ex
  obtain rfl : u = Value.ref d := rx
  obtain ⟨hz, hs0, vs, kv, hdo⟩ := dk_rd I1.hok hd
  obtain ⟨ep, hat⟩ := hdo.dictAt
  have lk : kvs.length = vs.length := Paired.length kv
  have I2 : Inv X pins σ H1 { s1 with heap := s1.heap.push { cls := .type "dict_items", data := .fields #[.ref d] } } := I1.kept (t' := s1.toks) fun b ob q => Heap.get?_push_of_some _ q
  refine ⟨hdo.typeIs, hdo.mapOf.noDict, ?_⟩
  show wpAny _ _ (callWith cpos (.builtin "dict.items") [.ref d] [] []) _ X.xe s1
  refine method_meetsIn F.slot_dict_items F.entry_dict_items rfl (PySem.evalArgs_none ⟨rfl, hdo.typeIs, F.args_dict_items_1 _, _, meets_dict_items (mixKind X.prog X.w) d hs0, ⟨vs, hdo⟩, ?_⟩)
  refine Calls.spliced_nil ?_
  refine call_tuple_items (knd := mixKind X.prog X.w) (kvs := vs) (ep := ep) (I1.ok.hd hc) ⟨_, Heap.get?_push_size _ rfl, rfl, rfl⟩ (hat.push _) (by omega) fun h' tk as hk hl hG => ?_
  obtain ⟨H', k1, k2, k3, k4, J⟩ := pairs_laid (tk := tk) I2 kv hk hl hG
  have J2 : Inv X pins σ (upd H' h'.objs.size (.tup (as.map V.ref))) { s1 with heap := h'.push { cls := .type "tuple", data := .seq (as.map Value.ref).toArray }, toks := tk } :=
    J.laid (t' := tk) (fun b o e => Heap.get?_push_of_some _ e) (Nat.le_refl _) (show ObjOk X.prog X.w _ _ _ (.tup (as.map V.ref)) from ⟨by rw [List.length_map]; omega, as.map Value.ref, LiI.vals_refs as, IsTup.new _ _⟩)
  have nH : H' h'.objs.size = none := J.hok.fresh (Nat.le_refl _)
  have nH1 : H1 h'.objs.size = none := by
    rcases hx : H1 h'.objs.size with _ | o
    · rfl
    · rw [k1 _ _ hx] at nH
      cases nH
  refine ⟨.ref _, _, J2, rfl, q _ h'.objs.size as (fun b o hb => ?_) nH1 k2 upd_same (paired_imp (fun {t q} (h : H' t = _) => ?_) k4)⟩
  · rw [upd_ne (fun z => by rw [z, nH1] at hb; cases hb)]
    exact k1 b o hb
  · rw [upd_ne (fun z => by rw [z, nH] at h; cases h)]
    exact h
end
end Ck

namespace Ck
open PySem PySem.Spec PyProof.Rows L2 StX Evl RZ
section
variable {qs ss os Y : List (Int × Int)}
theorem prt_keys {n : Int} : ∀ p ∈ prt 0 0 n qs, p.1 ∈ qs.map Prod.fst := fun p hp => (prt_sub 0 n qs 0).subset (List.mem_map_of_mem hp)
theorem prt_numS {n : Int} : ∀ {rs : List (Int × Int)} {s : Int}, (∀ r ∈ rs, 0 < r.2) → 0 ≤ s → s ≤ n → n ≤ s + numR rs → numR (prt s 0 n rs) = n - s
  | [], s, _, _, h1, h2 => by
    have e : numR ([] : List (Int × Int)) = 0 := rfl
    rw [e, Int.add_zero] at h2
    rw [Int.le_antisymm h2 h1, Int.sub_self]
    rfl
  | r :: t, s, h, s0, h1, h2 => by
    have pt : ∀ x ∈ t, 0 < x.2 := fun x hx => h x (List.mem_cons_of_mem r hx)
    have m := mny_f s r.2 0 n
    rw [numR_cons] at h2
    have pr : prt s 0 n (r :: t) = (if mny s r.2 0 n > 0 then [(r.1, mny s r.2 0 n)] else []) ++ prt (s + r.2) 0 n t := rfl
    have nn := numR_nn pt
    have ap : ∀ a b : List (Int × Int), numR (a ++ b) = numR a + numR b := fun a b => by unfold numR; rw [List.map_append, List.sum_append]
    have one : numR (if mny s r.2 0 n > 0 then [(r.1, mny s r.2 0 n)] else []) = if mny s r.2 0 n > 0 then mny s r.2 0 n else 0 := by
      split
      · exact Int.add_zero _
      · rfl
    rw [pr, ap, one]
    have r0 := h r List.mem_cons_self
    generalize mny s r.2 0 n = M at m ⊢
    by_cases c : n ≤ s + r.2
    · rw [prt_nil pt c (Int.add_nonneg s0 (Int.le_of_lt r0))]
      show _ + (0 : Int) = _
      have e : M = n - s := by omega
      rw [e]
      split <;> omega
    · rw [prt_numS pt (Int.add_nonneg s0 (Int.le_of_lt r0)) (by omega) (by rw [Int.add_assoc]; exact h2)]
      have e : M = r.2 := by omega
      rw [e, if_pos r0]
      omega
theorem num_prt {n : Int} (hq : LotC qs) (n0 : 0 ≤ n) (h : n ≤ numR qs) : numR (prt 0 0 n qs) = n := by
  rw [prt_numS (fun r hr => (siz_int (hq.ct.ok r hr).2).1) (Int.le_refl 0) n0 (by rw [Int.zero_add]; exact h), Int.sub_zero]
theorem prt_lot {n : Int} (hq : LotC qs) (n0 : 0 ≤ n) (hc : Cts (prt 0 0 n qs)) : LotC (prt 0 0 n qs) := lotc_sub (lotc_pws hq) hc (List.Pairwise.sublist (prt_sub 0 n qs 0) hq.asc) prt_keys
def smt (qs : List (Int × Int)) (i : Int) : Int := (((qs.map Prod.fst).filter fun s => decide (s < i)).map fun s => s * cf qs s).sum
theorem smt_eq {c : Int → Int} {i : Int} : ∀ N : List Int, ((N.filter fun s => decide (s < i)).map fun s => s * c s).sum = (N.map fun s => if s < i then s * c s else 0).sum
  | [] => rfl
  | x :: N => by
    have ih := smt_eq (c := c) (i := i) N
    by_cases h : x < i
    · rw [List.filter_cons, if_pos (decide_eq_true h), List.map_cons, List.sum_cons, List.map_cons, List.sum_cons, if_pos h, ih]
    · rw [List.filter_cons, if_neg (by simpa using h), List.map_cons, List.sum_cons, if_neg h, ih]
      omega
theorem unt_sto {s : Int} (so : StoOk ss) (s0 : 0 < s) : 0 ≤ unt ss s ∧ (unt ss s).natAbs < 10 ^ 500 := by
  have b : ∀ r ∈ ss, 0 ≤ r.2 * (r.1 / s) ∧ r.2 * (r.1 / s) ≤ 10 ^ 200 * 10 ^ 200 := fun r hr => by
    obtain ⟨h1, h2, h3⟩ := so.ok r hr
    obtain ⟨z0, z1⟩ := siz_int h1
    have q0 : 0 ≤ r.1 / s := Int.ediv_nonneg (Int.le_of_lt z0) (Int.le_of_lt s0)
    have q1 : r.1 / s ≤ r.1 := Int.ediv_le_self s (Int.le_of_lt z0)
    have a1 : r.1 < 10 ^ 200 := by
      have : (r.1.natAbs : Int) < ((10 ^ 200 : Nat) : Int) := Int.ofNat_lt.mpr z1
      rw [Int.natAbs_of_nonneg (Int.le_of_lt z0)] at this
      simpa using this
    have a2 : r.2 < 10 ^ 200 := by
      have : (r.2.natAbs : Int) < ((10 ^ 200 : Nat) : Int) := Int.ofNat_lt.mpr h3
      rw [Int.natAbs_of_nonneg (Int.le_of_lt h2)] at this
      simpa using this
    exact ⟨Int.mul_nonneg (Int.le_of_lt h2) q0, Int.mul_le_mul (Int.le_of_lt a2) (by omega) q0 (by decide +kernel)⟩
  obtain ⟨c0, c1⟩ := sum_rng (l := ss) (f := fun r => r.2 * (r.1 / s)) (B := 10 ^ 200 * 10 ^ 200) b
  have e : unt ss s = (ss.map fun r => r.2 * (r.1 / s)).sum := rfl
  rw [← e] at c0 c1
  have d : (ss.length : Int) * (10 ^ 200 * 10 ^ 200) ≤ 40 * (10 ^ 200 * 10 ^ 200) := Int.mul_le_mul_of_nonneg_right (by have := so.ln; omega) (by decide +kernel)
  have g : (40 : Int) * (10 ^ 200 * 10 ^ 200) < 10 ^ 500 := by decide +kernel
  refine ⟨c0, ?_⟩
  have h : unt ss s < 10 ^ 500 := by omega
  have k : ((unt ss s).natAbs : Int) < ((10 ^ 500 : Nat) : Int) := by
    rw [Int.natAbs_of_nonneg c0]
    simpa using h
  exact Int.ofNat_lt.mp k
theorem ws_all {p q : Int → Int} : ∀ {N : List Int}, (∀ t ∈ N, p t ≤ q t) → Wsum N q (fun _ => 1) ≤ Wsum N p (fun _ => 1) → ∀ t ∈ N, p t = q t
  | [], _, _ => fun t h => nomatch h
  | x :: N, h, le => by
    have u : ∀ f : Int → Int, Wsum (x :: N) f (fun _ => 1) = f x + Wsum N f (fun _ => 1) := fun f => by
      unfold Wsum
      rw [List.map_cons, List.sum_cons, Int.mul_one]
    rw [u, u] at le
    have hx := h x List.mem_cons_self
    have hN := fun t (ht : t ∈ N) => h t (List.mem_cons_of_mem x ht)
    have m : Wsum N p (fun _ => 1) ≤ Wsum N q (fun _ => 1) := ws_mono fun t ht => ⟨hN t ht, by decide⟩
    intro t ht
    rcases List.mem_cons.mp ht with rfl | ht
    · omega
    · exact ws_all hN (by omega) t ht
theorem part_all (hq : LotC qs) (hY : Y ∈ partsOf qs) (h : numR qs ≤ numR Y) : Y = qs := by
  obtain ⟨lY, kY, bY⟩ := part_of hq hY
  have nd := hq.ct.nd
  have e1 : numR Y = Wsum (qs.map Prod.fst) (cf Y) fun _ => 1 := num_cf nd lY.ct.nd kY
  have e2 : numR qs = Wsum (qs.map Prod.fst) (cf qs) fun _ => 1 := num_cf nd nd fun p hp => List.mem_map_of_mem hp
  rw [e1, e2] at h
  have k := ws_all (fun t _ => (bY t).2) h
  refine lot_cf lY hq fun t => ?_
  by_cases ht : t ∈ qs.map Prod.fst
  · exact k t ht
  · have a := bY t
    have z : cf qs t = 0 := by
      unfold cf
      rcases hc : cnt qs t with _ | y
      · rfl
      · exact absurd (List.mem_map.mpr ⟨(t, y), (cnt_mem nd).mpr hc, rfl⟩) ht
    omega
theorem full_part (hq : LotC qs) : qs ∈ partsOf qs := of_part hq hq (fun p hp => List.mem_map_of_mem hp) fun t _ => Int.le_refl _
theorem prt_part {n : Int} (hq : LotC qs) (n0 : 0 ≤ n) (hl : LotC (prt 0 0 n qs)) : prt 0 0 n qs ∈ partsOf qs := by
  refine of_part hq hl prt_keys fun t ht => ?_
  rcases hc : cnt (prt 0 0 n qs) t with _ | y
  · have e : cf (prt 0 0 n qs) t = 0 := by
      unfold cf
      rw [hc]
      rfl
    rw [e]
    have := (part_of hq (full_part hq)).2.2 t
    exact this.1
  · have hm := (cnt_mem hl.ct.nd).mpr hc
    have e : cf (prt 0 0 n qs) t = y := by
      unfold cf
      rw [hc]
      rfl
    obtain ⟨_, r, hr, e1, e2⟩ := prt_pos n0 (fun r hr => (siz_int (hq.ct.ok r hr).2).1) _ hm
    rw [e]
    have c : cf qs r.1 = r.2 := cf_mem hq.ct.nd hr
    have e1 : t = r.1 := e1
    rw [e1, c]
    exact e2
theorem bars_some (hq : LotC qs) (ct : Cts (prt 0 0 (numR os + 1) qs)) (ho : os ∈ partsOf qs) (ne : os ≠ qs) (hb : ∀ X ∈ partsOf qs, fitB X ss = true → numR X ≤ numR os) : brs (prt 0 0 (numR os + 1) qs) ss ≠ [] := by
  intro e
  have n0 := (part_num hq ho).1
  have lt : numR os < numR qs := Int.not_le.mp fun h => ne (part_all hq ho h)
  have hl := prt_lot hq (by omega) ct
  have hp := prt_part hq (by omega) hl
  have k := hb _ hp (by
    unfold fitB
    refine List.all_eq_true.mpr fun s hs => decide_eq_true (Int.not_lt.mp fun z => ?_)
    have : s ∈ brs (prt 0 0 (numR os + 1) qs) ss := List.mem_filter.mpr ⟨hs, decide_eq_true z⟩
    rw [e] at this
    cases this)
  rw [num_prt hq (by omega) (by omega)] at k
  omega
theorem smt_ps {ps : List (Int × Int)} {i : Int} (nd : (ps.map Prod.fst).Nodup) : smt ps i = ((ps.filter fun p => decide (p.1 < i)).map fun p => p.1 * p.2).sum := by
  unfold smt
  rw [List.filter_map, List.map_map]
  refine congrArg List.sum (List.map_congr_left fun p hp => ?_)
  show p.1 * cf ps p.1 = p.1 * p.2
  rw [cf_mem nd (List.mem_filter.mp hp).1]
theorem smt_srt {ps : List (Int × Int)} {i : Int} (nd : (ps.map Prod.fst).Nodup) : smt ps i = smt (srt ps) i := by
  rw [smt_ps nd, smt_ps ((List.Perm.nodup_iff ((srt_perm ps).map Prod.fst)).mpr nd)]
  exact sum_of_perm (((srt_perm ps).symm.filter _).map _)
end
end Ck

namespace Ck
open PySem PySem.Spec PyProof.Rows L2 StX Evl RZ
section
variable {qs ss fs : List (Int × Int)} {z : Int}
theorem left_out (hq : LotC qs) (so : StoOk ss) (hf : LotC fs) (hk : ∀ p ∈ fs, p.1 ∈ qs.map Prod.fst) (f : Fil (qs.map Prod.fst) (cf qs) (unt ss) (fun _ => 0) (qs.map Prod.fst).reverse (cf fs))
    (hz : z ∈ qs.map Prod.fst) (lt : cf fs z < cf qs z) (least : ∀ t ∈ qs.map Prod.fst, t < z → cf fs t = cf qs t) : tot fs = z * unt ss z + smt qs z := by
  have nd := hq.ct.nd
  have pos : ∀ t ∈ qs.map Prod.fst, 0 < t := fun t ht => (cts_pos hq.ct t ht).1
  have hr : ∀ r ∈ ss, 0 ≤ r.1 ∧ 0 ≤ r.2 := fun r hr => ⟨Int.le_of_lt (siz_int (so.ok r hr).1).1, Int.le_of_lt (so.ok r hr).2.1⟩
  have dvs : ∀ a ∈ qs.map Prod.fst, ∀ b ∈ qs.map Prod.fst, a ≤ b → a ∣ b := fun a ha b hb le => by
    rcases Int.lt_or_eq_of_le le with l | e
    · obtain ⟨p, hp, rfl⟩ := List.mem_map.mp hb
      exact hq.dv a ha p hp l
    · rw [e]
      exact Int.dvd_refl b
  have z0 := pos z hz
  obtain ⟨as, bs, hab⟩ := List.append_of_mem (List.mem_reverse.mpr hz)
  obtain ⟨h0, h1, fe, mx⟩ := f.at ((List.Perm.nodup_iff (List.reverse_perm _)).mpr nd) (fun _ _ => rfl) as z bs hab
  have des : (qs.map Prod.fst).reverse.Pairwise (· > ·) := List.pairwise_reverse.mpr hq.asc
  rw [hab] at des
  obtain ⟨d1, d2, d3⟩ := List.pairwise_append.mp des
  have mem : ∀ t ∈ qs.map Prod.fst, t ∈ as ↔ z < t := fun t ht => by
    constructor
    · intro h
      exact d3 t h z List.mem_cons_self
    · intro h
      have m : t ∈ as ++ z :: bs := hab ▸ List.mem_reverse.mpr ht
      rcases List.mem_append.mp m with m | m
      · exact m
      · rcases List.mem_cons.mp m with e | m
        · omega
        · have := (List.pairwise_cons.mp d2).1 t m
          omega
  have nz : z ∉ as := fun h => by have := (mem z hz).mp h; omega
  have mx := mx lt
  unfold Fe at mx fe
  obtain ⟨s, hs⟩ := Classical.not_forall.mp mx
  obtain ⟨sN, hs⟩ := Classical.not_imp.mp hs
  have s0 := pos s sN
  have feS := fe s sN
  have feZ := fe z hz
  rw [adC_sum nd hz] at hs feS feZ
  generalize hp : (fun t => if t ∈ as then cf fs t else (0 : Int)) = p at hs feS feZ
  have zs : 1 ≤ z / s := by
    have : 0 < z / s := by
      refine Int.not_le.mp fun le => ?_
      have e : z / s = 0 := Int.le_antisymm le (Int.ediv_nonneg (Int.le_of_lt z0) (Int.le_of_lt s0))
      rw [e, Int.mul_zero] at hs feS
      exact hs feS
    exact this
  have sz : s ≤ z := by
    refine Int.not_lt.mp fun l => ?_
    rw [Int.ediv_eq_zero_of_lt (Int.le_of_lt z0) l] at zs
    omega
  have sd := dvs s sN z hz sz
  have psc : Wsum (qs.map Prod.fst) p (fun t => t / s) = (z / s) * Wsum (qs.map Prod.fst) p (fun t => t / z) := ws_scale fun t ht => by
    rw [← hp]
    show (if t ∈ as then cf fs t else 0) * (t / s) = z / s * ((if t ∈ as then cf fs t else 0) * (t / z))
    by_cases m : t ∈ as
    · rw [if_pos m]
      have zt := dvs z hz t ht (Int.le_of_lt ((mem t ht).mp m))
      obtain ⟨k, rfl⟩ := zt
      obtain ⟨j, rfl⟩ := sd
      rw [Int.mul_ediv_cancel_left _ (by omega), Int.mul_ediv_cancel_left _ (by omega), Int.mul_assoc, Int.mul_ediv_cancel_left _ (by omega), Int.mul_left_comm]
    · rw [if_neg m, Int.zero_mul, Int.zero_mul, Int.mul_zero]
  have us : unt ss z * (z / s) ≤ unt ss s := unt_step s0 z0 sd hr
  rw [psc] at hs
  have zz : z / z = 1 := Int.ediv_self (by omega)
  rw [zz, Int.mul_one] at feZ
  have full : Wsum (qs.map Prod.fst) p (fun t => t / z) + cf fs z = unt ss z := by
    refine Int.le_antisymm feZ (Int.not_lt.mp fun l => hs ?_)
    refine Int.le_trans ?_ us
    have := Int.mul_le_mul_of_nonneg_right (show Wsum (qs.map Prod.fst) p (fun t => t / z) + (cf fs z + 1) ≤ unt ss z by omega) (show 0 ≤ z / s by omega)
    rw [Int.add_mul, Int.mul_comm (Wsum _ _ _)] at this
    exact this
  have key : ∀ N : List Int, (∀ t ∈ N, t ∈ qs.map Prod.fst) → Wsum N (cf fs) (fun t => t) = z * Wsum N (adC p z (cf fs z)) (fun t => t / z) + (N.map fun s => if s < z then s * cf qs s else 0).sum := by
    intro N
    induction N with
    | nil => intro _; unfold Wsum; simp
    | cons t N ih =>
      intro h
      have a := ih fun x hx => h x (List.mem_cons_of_mem t hx)
      have ht := h t List.mem_cons_self
      have u : ∀ q g, Wsum (t :: N) q g = q t * g t + Wsum N q g := fun q g => by
        unfold Wsum
        rw [List.map_cons, List.sum_cons]
      rw [u, u, Int.mul_add, List.map_cons, List.sum_cons, a]
      have e : adC p z (cf fs z) t = if t < z then 0 else cf fs t := by
        rw [← hp]
        show (if t = z then (if t ∈ as then cf fs t else 0) + cf fs z else if t ∈ as then cf fs t else 0) = _
        by_cases c : t = z
        · subst c
          rw [if_pos rfl, if_neg nz, if_neg (by omega), Int.zero_add]
        · rw [if_neg c]
          by_cases l : t < z
          · rw [if_pos l, if_neg fun m => by have := (mem t ht).mp m; omega]
          · rw [if_neg l, if_pos ((mem t ht).mpr (by omega))]
      rw [e]
      by_cases l : t < z
      · rw [if_pos l, if_pos l, least t ht l, Int.zero_mul, Int.mul_zero, Int.mul_comm]
        omega
      · rw [if_neg l, if_neg l]
        have e2 : z * (cf fs t * (t / z)) = cf fs t * t := by
          rw [Int.mul_left_comm, Int.mul_ediv_cancel' (dvs z hz t ht (by omega))]
        omega
  rw [tot_cf nd hf.ct.nd hk, key _ fun t ht => ht]
  unfold smt
  rw [smt_eq, adC_sum nd hz]
  show z * (_ + cf fs z * (z / z)) + _ = _
  rw [zz, Int.mul_one, full]
end
end Ck

namespace Ck
open PySem PySem.Spec PyProof.Rows L2
structure FnE where
  at_ : PySem.W.Frag → Addr
  name : Str
  qual : Str
  params : Arguments
  body : List Stmt
  scope : Scope
  dfl : Bool
abbrev FnT : Type := Option (Str × Str × Arguments × FuncBody × Scope × Addr × List (Str × Addr) × Addr)
def fnO (K : PySem.W.Frag) (a : Addr) : FnT := match K.lookup a with
  | some ⟨_, _, .func fd, _⟩ => some (fd.name, fd.qualname, fd.params, fd.body, fd.scope, fd.globals, fd.closure, fd.builtins)
  | _ => none
def FnE.val (d : FnE) : FnT := some (d.name, d.qual, d.params, .stmts d.body, d.scope, mainGlobals, [], builtinsNs)
def oneNone : List Value → Bool
  | [.none] => true
  | _ => false
def isNoneV : Value → Bool
  | .none => true
  | _ => false
theorem isNoneV_ok {v : Value} (h : isNoneV v = true) : v = .none := by
  cases v with
  | none => rfl
  | _ => cases h
def seqB (K : PySem.W.Frag) (T : Addr) : Bool := match K.lookup T with
  | some ⟨_, _, .seq its _, _⟩ => oneNone its.toList
  | _ => false
def refB (K : PySem.W.Frag) : Value → Bool
  | .ref T => seqB K T
  | _ => false
def dfB (K : PySem.W.Frag) (a : Addr) (b : Bool) : Bool := match K.lookup a with
  | some ⟨_, _, .func fd, _⟩ => cond b (refB K fd.defaults) (isNoneV fd.defaults)
  | _ => false
def cqB (K : PySem.W.Frag) (a : Addr) (q : Str) : Bool := match K.lookup a with
  | some ⟨_, _, .func fd, _⟩ => PySem.W.codeIn K fd.code q
  | _ => false
def FnE.ok (K : PySem.W.Frag) (d : FnE) : Bool := dfB K (d.at_ K) d.dfl && cqB K (d.at_ K) d.qual
theorem oneNone_ok {l : List Value} (h : oneNone l = true) : l = [.none] := by
  cases l with
  | nil => cases h
  | cons v r =>
    cases v with
    | none =>
      cases r with
      | nil => rfl
      | cons _ _ => cases h
    | _ => cases h
theorem seqB_ok {K : PySem.W.Frag} {T : Addr} (h : seqB K T = true) : ∃ (oT : Value) (dT : Option Addr) (n : Nat) (sT : Array (Option Value)), K.lookup T = some ⟨oT, dT, .seq #[.none] n, sT⟩ := by
  unfold seqB at h
  cases q : K.lookup T with
  | none => rw [q] at h; cases h
  | some o =>
    obtain ⟨oT, dT, dd, sT⟩ := o
    rw [q] at h
    cases dd with
    | seq its n =>
      have e : its.toList = [.none] := oneNone_ok h
      have e2 : its = #[.none] := by rw [← Array.toArray_toList (xs := its), e]
      exact ⟨oT, dT, n, sT, by rw [e2]⟩
    | _ => cases h
theorem refB_ok {K : PySem.W.Frag} {v : Value} (h : refB K v = true) : ∃ T, v = .ref T ∧ seqB K T = true := by
  cases v with
  | ref T => exact ⟨T, rfl, h⟩
  | _ => cases h
def IsFn (K : PySem.W.Frag) (d : FnE) (dV : Value) : Prop := ∃ (oc : Value) (od : Option Addr) (kV dc pm : Value) (an : Option Addr) (cd ct : Value) (sl : Array (Option Value)),
  K.lookup (d.at_ K) = some ⟨oc, od, .func (PySem.W.fnOf d.name d.qual d.params d.body d.scope dV kV dc pm an cd ct), sl⟩ ∧ PySem.W.codeIn K cd d.qual = true
theorem isFn_of {K : PySem.W.Frag} {d : FnE} (e : fnO K (d.at_ K) = d.val) (c : d.ok K = true) : ∃ dV, IsFn K d dV ∧
    ((d.dfl = false → dV = .none) ∧ (d.dfl = true → ∃ T, dV = .ref T ∧ ∃ (oT : Value) (dT : Option Addr) (n : Nat) (sT : Array (Option Value)), K.lookup T = some ⟨oT, dT, .seq #[.none] n, sT⟩)) := by
  obtain ⟨c1, c2⟩ := Bool.and_eq_true_iff.mp c
  unfold dfB at c1
  unfold cqB at c2
  unfold fnO at e
  cases q : K.lookup (d.at_ K) with
  | none => rw [q] at c2; cases c2
  | some o =>
    obtain ⟨oc, od, dt, sl⟩ := o
    rw [q] at c1 c2 e
    cases dt with
    | func fd =>
      obtain ⟨a1, a2, a3, a4, a5, a6, a7, a8, a9, a10, a11, a12, a13, a14, a15⟩ := fd
      have e' : (some (a1, a2, a3, a4, a5, a6, a7, a15) : FnT) = some (d.name, d.qual, d.params, .stmts d.body, d.scope, mainGlobals, [], builtinsNs) := e
      simp only [Option.some.injEq, Prod.mk.injEq] at e'
      obtain ⟨z1, z2, z3, z4, z5, z6, z7, z8⟩ := e'
      subst z1 z2 z3 z4 z5 z6 z7 z8
      have c1' : cond d.dfl (refB K a8) (isNoneV a8) = true := c1
      refine ⟨a8, ⟨oc, od, a9, a10, a11, a12, a13, a14, sl, q, c2⟩, fun f => ?_, fun f => ?_⟩
      · rw [f] at c1'
        exact isNoneV_ok c1'
      · rw [f] at c1'
        obtain ⟨T, z, y⟩ := refB_ok c1'
        exact ⟨T, z, seqB_ok y⟩
    | _ => cases c2
abbrev AlC : Type := Bool × List FnT
abbrev Chks : Type := List (List (PySem.W.Frag → Bool))
def obsK (chk : Chks) (fn : List FnE) (tf : List He.Defn) (g : Addr → Option Obj) (K : PySem.W.Frag) : AlC :=
  ((chk.all fun l => l.all fun c => c K) && ((fn.all fun d => d.ok K) && He.tabsB g tf K), fn.map fun d => fnO K (d.at_ K))
def obsC (as : List Addr) (chk : Chks) (fn : List FnE) (tf : List He.Defn) (g : Addr → Option Obj) : AlC := obsK chk fn tf g (He.frT g as)
def valC (fn : List FnE) : AlC := (true, fn.map FnE.val)
structure SaysC (chk : Chks) (fn : List FnE) (tf : List He.Defn) (h : Heap) (K : PySem.W.Frag) : Prop where
  chk : ∀ l ∈ chk, ∀ c ∈ l, c K = true
  fn : ∀ d ∈ fn, fnO K (d.at_ K) = d.val ∧ d.ok K = true
  hd : ∀ p ∈ tf, PySem.W.codeHdIn K (He.cT K p).1 (He.cT K p).2 = true
  out : ∀ p ∈ tf, K.lookup (He.cT K p).2 = none
  empty : ∀ p ∈ tf, h.get? (He.cT K p).2 = some { cls := .none, data := .fields #[] }
theorem saysC_of {as : List Addr} {chk : Chks} {fn : List FnE} {tf : List He.Defn} {h : Heap} (e : obsC as chk fn tf h.get? = valC fn) : SaysC chk fn tf h (He.frT h.get? as) := by
  have e1 : ((chk.all fun l => l.all fun c => c (He.frT h.get? as)) && ((fn.all fun d => d.ok (He.frT h.get? as)) && He.tabsB h.get? tf (He.frT h.get? as))) = true := congrArg (fun z : AlC => z.1) e
  have e2 : fn.map (fun d => fnO (He.frT h.get? as) (d.at_ (He.frT h.get? as))) = fn.map FnE.val := congrArg (fun z : AlC => z.2) e
  obtain ⟨e3, e4⟩ := Bool.and_eq_true_iff.mp e1
  obtain ⟨e5, e6⟩ := Bool.and_eq_true_iff.mp e4
  have key : ∀ p ∈ tf, PySem.W.codeHdIn (He.frT h.get? as) (He.cT (He.frT h.get? as) p).1 (He.cT (He.frT h.get? as) p).2 = true ∧ ∃ o, h.get? (He.cT (He.frT h.get? as) p).2 = some o ∧ He.emptyTab o = true := by
    intro p hp
    obtain ⟨y1, y2⟩ := Bool.and_eq_true_iff.mp (List.all_eq_true.mp e6 p hp)
    refine ⟨y1, ?_⟩
    cases q : h.get? (He.cT (He.frT h.get? as) p).2 with
    | none => rw [q] at y2; cases y2
    | some o => rw [q] at y2; exact ⟨o, rfl, y2⟩
  refine ⟨fun l hl c hc => List.all_eq_true.mp (List.all_eq_true.mp e3 l hl) c hc, fun d hd => ⟨?_, List.all_eq_true.mp e5 d hd⟩, fun p hp => (key p hp).1, fun p hp => ?_, fun p hp => ?_⟩
  · obtain ⟨i, hi⟩ := List.mem_iff_getElem?.mp hd
    have e7 : (fn.map (fun d => fnO (He.frT h.get? as) (d.at_ (He.frT h.get? as))))[i]? = (fn.map FnE.val)[i]? := by rw [e2]
    rw [List.getElem?_map, List.getElem?_map, hi] at e7
    exact Option.some.inj e7
  · obtain ⟨_, o, q, z⟩ := key p hp
    exact He.frT_none q z
  · obtain ⟨_, o, q, z⟩ := key p hp
    rw [q, He.emptyTab_eq z]
def hookC (as : List Addr) (chk : Chks) (fn : List FnE) (tf : List He.Defn) : PySem.W.Hook where
  α := AlC
  obs := fun s => obsC as chk fn tf s.heap.get?
  val := fun _ => valC fn
  says := fun _ h => ∃ K : PySem.W.Frag, K.In h ∧ SaysC chk fn tf h K
  of := fun _ _ e => ⟨_, He.frT_in, saysC_of e⟩
  keeps := fun _ _ _ ⟨K, hK, c⟩ k => ⟨K, PySem.W.Frag.In.keeps hK k, ⟨c.chk, c.fn, c.hd, c.out, fun p hp => k _ _ (c.empty p hp)⟩⟩
theorem obsC_eq {as : List Addr} {chk : Chks} {fn : List FnE} {tf : List He.Defn} (s : PySem.W.SharedT) : obsC as chk fn tf (HandSHeadRun.getT s) = (hookC as chk fn tf).obs s.abs := by
  have e : HandSHeadRun.getT s = s.abs.heap.get? := funext fun a => HandSHeadRun.getT_eq s a
  rw [e] <;> rfl
section
variable {chk : Chks} {fn : List FnE} {tf : List He.Defn} {h : Heap} {K : PySem.W.Frag}
theorem SaysC.at_ (S : SaysC chk fn tf h K) (i j : Nat) {l : List (PySem.W.Frag → Bool)} {c : PySem.W.Frag → Bool} (h1 : chk[i]? = some l) (h2 : l[j]? = some c) : c K = true :=
  S.chk l (List.mem_of_getElem? h1) c (List.mem_of_getElem? h2)
theorem SaysC.f0 (S : SaysC chk fn tf h K) (i : Nat) {d : FnE} (h1 : fn[i]? = some d) (h2 : d.dfl = false) : IsFn K d .none := by
  obtain ⟨a, b⟩ := S.fn d (List.mem_of_getElem? h1)
  obtain ⟨dV, z, y, _⟩ := isFn_of a b
  rw [y h2] at z
  exact z
theorem SaysC.f1 (S : SaysC chk fn tf h K) (i : Nat) {d : FnE} (h1 : fn[i]? = some d) (h2 : d.dfl = true) : ∃ T, IsFn K d (.ref T) ∧ ∃ (oT : Value) (dT : Option Addr) (n : Nat) (sT : Array (Option Value)), K.lookup T = some ⟨oT, dT, .seq #[.none] n, sT⟩ := by
  obtain ⟨a, b⟩ := S.fn d (List.mem_of_getElem? h1)
  obtain ⟨dV, z, _, y⟩ := isFn_of a b
  obtain ⟨T, e, t⟩ := y h2
  rw [e] at z
  exact ⟨T, z, t⟩
end
def mP (K : PySem.W.Frag) (x m : Str) : Addr := He.ma K (He.ga K x) m
def adV : Value → Addr
  | .ref a => a
  | _ => 0
def hdV : Option (List Value) → Addr
  | some (v :: _) => adV v
  | _ => 0
def gP (K : PySem.W.Frag) (x m : Str) : Addr := hdV (PySem.W.recIn K (mP K x m) "property")
def recB : Option (List Value) → Bool
  | some (.ref _ :: _) => true
  | _ => false
theorem recB_ok {o : Option (List Value)} (h : recB o = true) : ∃ rs, o = some (.ref (hdV o) :: rs) := by
  cases o with
  | none => cases h
  | some l =>
    cases l with
    | nil => cases h
    | cons v r =>
      cases v with
      | ref a => exact ⟨r, rfl⟩
      | _ => cases h
theorem hdRec_ok {K : PySem.W.Frag} {x m : Str} (h : recB (PySem.W.recIn K (mP K x m) "property") = true) : ∃ rs, PySem.W.recIn K (mP K x m) "property" = some (.ref (gP K x m) :: rs) := recB_ok h
def intEq (i : Int) : Option (Option Value) → Bool
  | some (some (.int j _)) => decide (j = i)
  | _ => false
theorem hdInt_of {i : Int} {o : Option (Option Value)} (h : intEq i o = true) : ∃ t, o = some (some (.int i t)) := by
  cases o with
  | none => cases h
  | some o =>
    cases o with
    | none => cases h
    | some v =>
      cases v with
      | int j t => exact ⟨t, by rw [of_decide_eq_true (show decide (j = i) = true from h)]⟩
      | _ => cases h
end Ck

namespace Ck
open PySem PySem.Spec PyProof.Rows L2 LamX
abbrev tabE : Obj := { cls := .none, data := .fields #[] }
abbrev BiMod (mg : Str → Option Value) (h : Heap) : Prop :=
  ∃ (bm : Addr) (ob : Obj), mg "__builtins__" = some (.ref bm) ∧ bm ≠ builtinsNs ∧ h.get? bm = some ob ∧ ob.cls = .type "module" ∧ ob.dict = some builtinsNs ∧ ob.data = .plain
section
variable {P : Program} {w : World} {K : PySem.W.Frag} {mg mb : Str → Option Value} {k : Nat} {fa a : Addr} {cs : List (Addr × Addr)} {fd : FuncData} {x : Str} {sp : Sp} {s₁ : Shared} {vs : List Value} {ns : List Int}
theorem law_runT (KX : K.In s₁.heap) (HM : NoSm s₁.heap) (hns : s₁.heap.Ns mainGlobals mg) (hb : s₁.heap.Ns builtinsNs mb) (hbb : ∀ x : Str, x ≠ "__name__" → mb x = bootBuiltins x)
    (hlim : s₁.heap.NoLimit) (hg : s₁.gens = #[]) (hT : ∀ p ∈ cs, s₁.heap.get? p.2 = some tabE) (nT : ∀ p ∈ cs, K.lookup p.2 = none) (C : ∀ p ∈ cs, PySem.W.CodeHd s₁.heap p.1 p.2) (hbm : BiMod mg s₁.heap)
    (ha : s₁.heap.get? a = some { cls := .type "list", data := .seq vs.toArray }) (hr : Room k callerA)
    (F : ∀ base : Heap, K.In base → base.Ns mainGlobals mg → NoSm base → (∀ p ∈ cs, TabB base mg p.1 p.2) → FnG P w K mg base CX0 k fa fd [x] sp) (hbind : ∀ (s : Shared) (u : Value), BindsTo s fd ⟨[u], []⟩ [(x, u)])
    (hsp : ∀ H : Hp, (∀ p ∈ cs, H p.2 = some (.tbl #[])) → SqL K H a (ns.map V.int) → sp [.ref a] H (fun v _ => v = .bl true) fun _ _ _ => False)
    (H : Hp) (hH : ∀ p ∈ cs, H p.2 = some (.tbl #[])) (hS : SqL K H a (ns.map V.int)) (hok : HOk P w H s₁.heap)
    (only : ∀ b u, H b = some u → (b = a ∧ ∃ o xs, u = .frz o (.lst xs)) ∨ ∃ p ∈ cs, b = p.2 ∧ u = .tbl #[]) (off : ∀ u, H a = some u → K.lookup a = none) :
    codeAny (model P w) callerA (.call (.ref fa) ⟨[.ref a], []⟩) (Fine s₁) s₁ := by
  -- what is neither the script nor an empty table stays in the base
  have free : ∀ (b : Addr) (o : Obj), s₁.heap.get? b = some o → (∀ xs n, o.data ≠ .seq xs n) → o.data ≠ .fields #[] → H b = none := by
    intro b o e d1 d2
    match q : H b with
    | none => rfl
    | some u =>
      rcases only b u q with ⟨z, _⟩ | ⟨p, hp, z, _⟩
      · rw [z, ha] at e
        obtain rfl := Option.some.inj e
        exact (d1 _ _ rfl).elim
      · rw [z, hT p hp] at e
        obtain rfl := Option.some.inj e
        exact (d2 rfl).elim
  have nsOff : ∀ (b : Addr) (m : Str → Option Value), s₁.heap.Ns b m → (hidT s₁.heap H).Ns b m := by
    rintro b m ⟨o, es, ep, e, d, r⟩
    refine ⟨o, es, ep, hidT_get e (free b o e (fun xs n z => ?_) fun z => ?_), d, r⟩ <;> (rw [d] at z; cases z)
  have inB : K.In (hidT s₁.heap H) := by
    intro b o e
    refine hidT_get (KX b o e) ?_
    match q : H b with
    | none => rfl
    | some u =>
      rcases only b u q with ⟨z, _⟩ | ⟨p, hp, z, _⟩
      · rw [z] at q e
        rw [off u q] at e
        cases e
      · rw [z, nT p hp] at e
        cases e
  have M : Mod K mg (hidT s₁.heap H) := by
    obtain ⟨mc, h1, h2⟩ := hlim
    exact ⟨inB, nsOff _ _ hns, ⟨mb, nsOff _ _ hb, hbb⟩, ⟨mc, nsOff _ _ h1, h2⟩⟩
  have noD : ∀ (b P' : Addr), s₁.heap.get? P' = some tabE → (∃ o, s₁.heap.get? b = some o ∧ ∀ y, o.data ≠ .fields y) → b ≠ P' := by
    rintro b P' e ⟨o, e2, d⟩ z
    rw [z, e] at e2
    obtain rfl := Option.some.inj e2
    exact d _ rfl
  have TB : ∀ p ∈ cs, TabB (hidT s₁.heap H) mg p.1 p.2 := by
    intro p hp
    obtain ⟨bm, ob, b1, b2, b3, b4, b5, b6⟩ := hbm
    obtain ⟨og, es, ep, g1, g2, _⟩ := hns
    have obF : ∀ y, ob.data ≠ .fields y := fun y z => by rw [b6] at z; cases z
    have obS : ∀ xs n, ob.data ≠ .seq xs n := fun xs n z => by rw [b6] at z; cases z
    have ogF : ∀ y, og.data ≠ .fields y := fun y z => by rw [g2] at z; cases z
    refine ⟨?_, ⟨bm, ob, b1, b2, fun z => ?_, noD bm p.2 (hT p hp) ⟨ob, b3, obF⟩, hidT_get b3 (free bm ob b3 obS (obF _)), b4, b5, b6⟩, noD mainGlobals p.2 (hT p hp) ⟨og, g1, ogF⟩⟩
    · obtain ⟨o, us, file, tf, flags, tg, inF, text, tt, e1, r1, r2, r3, more⟩ := C p hp
      refine ⟨o, us, file, tf, flags, tg, inF, text, tt, hidT_get e1 (free _ o e1 (fun xs n z => ?_) fun z => ?_), r1, r2, r3, more⟩
      · rw [r2] at z
        cases z
      · rw [r2] at z
        cases z
        simp at r3
    · rw [z] at b3
      have e := b3.symm.trans g1
      obtain rfl := Option.some.inj e
      rw [b6] at g2
      cases g2
  have no : ∀ (b : Addr), b ∉ frs [] := fun b z => by cases z
  have E0' : Env0 P w K mg (hidT s₁.heap H) callerA [] s₁ H :=
    ⟨rfl, M, fun b o e => of_hidT e, Nat.le_of_eq (hidT_size s₁.heap H), trivial, fun b z => (no b z).elim, hok, .of_eq hg⟩
  have run := (F (hidT s₁.heap H) inB (nsOff _ _ hns) (HM.imp fun _ z => nsOff _ _ z) TB).run callerA [] s₁ H ⟨[.ref a], []⟩ [.ref a] [.ref a] (fun v _ => v = .bl true) (fun _ _ _ => False) hr rfl E0' (hbind s₁ (.ref a)) (.cons rfl .nil) (hsp H hH hS)
  refine codeAny_mono run ?_
  intro r s' h
  match r, h with
  | .error _, h => exact h.elim
  | .ok .next, h => exact h.elim
  | .ok .brk, h => exact h.elim
  | .ok .cont, h => exact h.elim
  | .ok (.ret u), h =>
    obtain ⟨v, H', os, bare, un, hok', rv, q⟩ := h
    cases q
    cases rv
    have stay : ∀ b o, s₁.heap.get? b = some o → s'.heap.get? b = some o ∨ ∃ p ∈ cs, b = p.2 ∧ ∃ more : Array Value, s'.heap.get? b = some { cls := .none, data := .fields more } := by
      intro b o e
      match q : H b with
      | none => exact .inl (un.keep b o e q (no b) (List.not_mem_nil))
      | some u =>
        rcases only b u q with ⟨_, ob, xs, z⟩ | ⟨p, hp, z, _⟩
        · rw [z] at q
          have e1 := (hok b _ q).1
          rw [e] at e1
          obtain rfl := Option.some.inj e1
          exact .inl (hok' b _ (un.frzs b _ _ q)).1
        · obtain ⟨more, y⟩ := un.tbls p.2 #[] (hH p hp)
          rw [z]
          exact .inr ⟨p, hp, rfl, _, hok' p.2 _ y⟩
    refine ⟨rfl, ⟨fun b o e => ?_, fun b o e => ?_⟩, os, bare⟩
    · rcases stay b o e with z | ⟨p, hp, z, more, y⟩
      · exact .inl z
      · rw [z] at e y ⊢
        rw [hT p hp] at e
        obtain rfl := Option.some.inj e
        refine .inr (.inl ⟨((C p hp).tab (hT p hp)).isCodeTable, rfl, #[], more, rfl, ?_⟩)
        rw [Array.empty_append]
        exact y
    · rcases stay b o e with z | ⟨_, _, _, _, y⟩
      · exact ⟨o, z⟩
      · exact ⟨_, y⟩
theorem law_doneT (KX : K.In s₁.heap) (HM : NoSm s₁.heap) (hns : s₁.heap.Ns mainGlobals mg) (hb : s₁.heap.Ns builtinsNs mb) (hbb : ∀ x : Str, x ≠ "__name__" → mb x = bootBuiltins x)
    (hlim : s₁.heap.NoLimit) (hg : s₁.gens = #[]) (hT : ∀ p ∈ cs, s₁.heap.get? p.2 = some tabE) (nT : ∀ p ∈ cs, K.lookup p.2 = none) (C : ∀ p ∈ cs, PySem.W.CodeHd s₁.heap p.1 p.2) (hbm : BiMod mg s₁.heap)
    (ha : s₁.heap.get? a = some { cls := .type "list", data := .seq vs.toArray }) (hi : IntsAre vs ns) (hl : ns.length ≤ sizeLine) (hr : Room k callerA)
    (F : ∀ base : Heap, K.In base → base.Ns mainGlobals mg → NoSm base → (∀ p ∈ cs, TabB base mg p.1 p.2) → FnG P w K mg base CX0 k fa fd [x] sp) (hbind : ∀ (s : Shared) (u : Value), BindsTo s fd ⟨[u], []⟩ [(x, u)])
    (hsp : ∀ H : Hp, (∀ p ∈ cs, H p.2 = some (.tbl #[])) → SqL K H a (ns.map V.int) → sp [.ref a] H (fun v _ => v = .bl true) fun _ _ _ => False) :
    codeAny (model P w) callerA (.call (.ref fa) ⟨[.ref a], []⟩) (Fine s₁) s₁ := by
  have rv : Vals (ns.map V.int) vs := vals_ints hi
  have sz : vs.length ≤ sizeLine := by rw [← rv.length, List.length_map]; exact hl
  let T : Hp := fun b => if b ∈ cs.map (·.2) then some (.tbl #[]) else none
  have mem : ∀ p ∈ cs, p.2 ∈ cs.map (·.2) := fun p hp => List.mem_map.mpr ⟨p, hp, rfl⟩
  have tat : ∀ p ∈ cs, T p.2 = some (.tbl #[]) := fun p hp => if_pos (mem p hp)
  have tof : ∀ b u, T b = some u → ∃ p ∈ cs, b = p.2 ∧ u = .tbl #[] := by
    intro b u e
    by_cases q : b ∈ cs.map (·.2)
    · obtain ⟨p, hp, z⟩ := List.mem_map.mp q
      have e2 : some (HO.tbl #[]) = some u := (if_pos q).symm.trans e
      exact ⟨p, hp, z.symm, (Option.some.inj e2).symm⟩
    · have e2 : (none : Option HO) = some u := (if_neg q).symm.trans e
      cases e2
  have tne : ∀ p ∈ cs, p.2 ≠ a := by
    intro p hp z
    have e := hT p hp
    rw [z, ha] at e
    have e2 : Data.seq vs.toArray _ = Data.fields #[] := congrArg Obj.data (Option.some.inj e)
    cases e2
  match hk : K.lookup a with
  | some o =>
    have e := KX a o hk
    rw [ha] at e
    obtain rfl := Option.some.inj e
    refine law_runT KX HM hns hb hbb hlim hg hT nT C hbm ha hr F hbind hsp T tat (.inr ⟨_, vs.toArray, _, hk, rfl, rfl, rfl, by simpa using sz, by simpa using rv⟩) (fun b u z => ?_) (fun b u z => .inr (tof b u z)) (fun u z => ?_)
    · obtain ⟨p, hp, e1, e2⟩ := tof b u z
      rw [e1, e2]
      exact hT p hp
    · obtain ⟨p, hp, e1, _⟩ := tof a u z
      exact (tne p hp e1.symm).elim
  | none =>
    let o : Obj := { cls := .type "list", data := .seq vs.toArray }
    let H : Hp := fun b => if b = a then some (.frz o (.lst (ns.map V.int))) else T b
    have hA : H a = some (.frz o (.lst (ns.map V.int))) := if_pos rfl
    have hN : ∀ b, b ≠ a → H b = T b := fun b z => if_neg z
    refine law_runT KX HM hns hb hbb hlim hg hT nT C hbm ha hr F hbind hsp H (fun p hp => (hN _ (tne p hp)).trans (tat p hp)) (.inl (.inr ⟨o, hA⟩)) (fun b u z => ?_) (fun b u z => ?_) (fun _ _ => hk)
    · by_cases q : b = a
      · rw [q] at z ⊢
        rw [hA] at z
        obtain rfl := Option.some.inj z
        exact ⟨ha, by rw [List.length_map]; exact hl, vs, _, rv, ha⟩
      · rw [hN b q] at z
        obtain ⟨p, hp, e1, e2⟩ := tof b u z
        rw [e1, e2]
        exact hT p hp
    · by_cases q : b = a
      · rw [q, hA] at z
        exact .inl ⟨q, _, _, (Option.some.inj z).symm⟩
      · rw [hN b q] at z
        exact .inr (tof b u z)
end
theorem walk_gC {l : PySem.W.OpenLaw} {n k : Nat} {q : Program} {loose : List Str} {XP : (Str → Option Value) → Heap → Prop} {YP : World → Heap → Prop} {d : DefRec} {sp : World → PySem.W.Frag → List (Addr × Addr) → Sp} {x : Str}
    (hq : importsNone q = true) (hn : l.most = some n) (hn2 : n ≤ sizeLine) (hdf : d.params.defaults = []) (hr : Room k callerA)
    (F : ∀ (w : World) (mg : Str → Option Value) (fa : Addr) (h : Heap), YP w h → h.Ns mainGlobals mg → mg d.name = some (.ref fa) →
      ∃ (K : PySem.W.Frag) (cs : List (Addr × Addr)) (fd : FuncData), K.In h ∧ (∀ p ∈ cs, h.get? p.2 = some tabE) ∧ (∀ p ∈ cs, K.lookup p.2 = none) ∧ (∀ p ∈ cs, PySem.W.CodeHd h p.1 p.2) ∧ (∀ (s : Shared) (u : Value), BindsTo s fd ⟨[u], []⟩ [(x, u)]) ∧
        ∀ base : Heap, K.In base → base.Ns mainGlobals mg → NoSm base → (∀ p ∈ cs, TabB base mg p.1 p.2) → FnG l.prog w K mg base CX0 k fa fd [x] (sp w K cs))
    (hsp : ∀ (w : World) (K : PySem.W.Frag) (cs : List (Addr × Addr)) (H : Hp) (a : Addr) (ns : List Int), ns.length ≤ n → (∀ p ∈ cs, H p.2 = some (.tbl #[])) → SqL K H a (ns.map V.int) → sp w K cs [.ref a] H (fun v _ => v = .bl true) fun _ _ _ => False) :
    PySem.W.WalkO q loose XP YP l.row.toRowW d [] (fun f vs => PySem.call f vs) := by
  refine Att.attach_call hn hdf ?_
  intro w s₀ s₁ mg mb fa o pm cd doc a vs ns G Y ho hd hcd hmg hobj hints hlen hg
  obtain ⟨K, cs, fd, KX, hT, nT, C, hb, hF⟩ := F w mg fa s₁.heap Y G.T.g hmg
  exact law_doneT KX (let ⟨mm, z, _⟩ := (G.T.seer hq).mods; ⟨mm, z⟩) G.T.g G.T.b G.T.builtins G.T.nolimit hg hT nT C G.T.bmain hobj hints (Nat.le_trans hlen hn2) hr hF hb (fun H hH hS => hsp w K cs H a ns hlen hH hS)
end Ck

namespace Lk57
open PySem PySem.Spec PyProof.Rows L2 Ck RZ
def topS (i : Nat) : Stmt := PySem.Challenge.pw_chainpacks_k57_whole_papers_of_parts.main.body.getD i (.Pass ⟨0, 0, 0, 0⟩)
abbrev s_is_integer : Stmt := topS 3
abbrev n_is_integer : List Str := ["value"]
theorem sc_is_integer : FnScope n_is_integer ["value"] (defScope s_is_integer) := ⟨rfl, rfl, rfl, by decide +kernel, rfl, by decide +kernel, by decide +kernel⟩
abbrev s_is_count : Stmt := topS 4
abbrev n_is_count : List Str := ["value"]
theorem sc_is_count : FnScope n_is_count ["value"] (defScope s_is_count) := ⟨rfl, rfl, rfl, by decide +kernel, rfl, by decide +kernel, by decide +kernel⟩
abbrev s_is_size : Stmt := topS 5
abbrev n_is_size : List Str := ["value"]
theorem sc_is_size : FnScope n_is_size ["value"] (defScope s_is_size) := ⟨rfl, rfl, rfl, by decide +kernel, rfl, by decide +kernel, by decide +kernel⟩
abbrev s_is_run : Stmt := topS 7
abbrev n_is_run : List Str := ["value"]
theorem sc_is_run : FnScope n_is_run ["value"] (defScope s_is_run) := ⟨rfl, rfl, rfl, by decide +kernel, rfl, by decide +kernel, by decide +kernel⟩
abbrev s_number_of_all : Stmt := topS 8
abbrev n_number_of_all : List Str := ["runs", "run"]
theorem sc_number_of_all : FnScope n_number_of_all ["runs"] (defScope s_number_of_all) := ⟨rfl, rfl, rfl, by decide +kernel, rfl, by decide +kernel, by decide +kernel⟩
abbrev s_units_of : Stmt := topS 9
abbrev n_units_of : List Str := ["runs", "size", "run"]
theorem sc_units_of : FnScope n_units_of ["runs", "size"] (defScope s_units_of) := ⟨rfl, rfl, rfl, by decide +kernel, rfl, by decide +kernel, by decide +kernel⟩
abbrev s_joined_runs : Stmt := topS 10
abbrev n_joined_runs : List Str := ["runs", "joined", "run"]
theorem sc_joined_runs : FnScope n_joined_runs ["runs"] (defScope s_joined_runs) := ⟨rfl, rfl, rfl, by decide +kernel, rfl, by decide +kernel, by decide +kernel⟩
abbrev s_part_of_runs : Stmt := topS 11
abbrev n_part_of_runs : List Str := ["runs", "first", "last", "part", "start", "run", "end", "many"]
theorem sc_part_of_runs : FnScope n_part_of_runs ["runs", "first", "last"] (defScope s_part_of_runs) := ⟨rfl, rfl, rfl, by decide +kernel, rfl, by decide +kernel, by decide +kernel⟩
abbrev s_check_size : Stmt := topS 21
abbrev n_check_size : List Str := ["value"]
theorem sc_check_size : FnScope n_check_size ["value"] (defScope s_check_size) := ⟨rfl, rfl, rfl, by decide +kernel, rfl, by decide +kernel, by decide +kernel⟩
abbrev s_check_count : Stmt := topS 22
abbrev n_check_count : List Str := ["value"]
theorem sc_check_count : FnScope n_check_count ["value"] (defScope s_check_count) := ⟨rfl, rfl, rfl, by decide +kernel, rfl, by decide +kernel, by decide +kernel⟩
abbrev s_check_between : Stmt := topS 23
abbrev n_check_between : List Str := ["value", "low", "high"]
theorem sc_check_between : FnScope n_check_between ["value", "low", "high"] (defScope s_check_between) := ⟨rfl, rfl, rfl, by decide +kernel, rfl, by decide +kernel, by decide +kernel⟩
abbrev s_first_gap : Stmt := topS 25
abbrev n_first_gap : List Str := ["sizes", "low", "high"]
theorem sc_first_gap : FnScope n_first_gap ["sizes"] (defScope s_first_gap) := ⟨rfl, rfl, rfl, by decide +kernel, rfl, by decide +kernel, by decide +kernel⟩
abbrev s_check_lot : Stmt := topS 28
abbrev n_check_lot : List Str := ["value"]
theorem sc_check_lot : FnScope n_check_lot ["value"] (defScope s_check_lot) := ⟨rfl, rfl, rfl, by decide +kernel, rfl, by decide +kernel, by decide +kernel⟩
abbrev s__are_counts : Stmt := topS 29
abbrev n__are_counts : List Str := ["value", "size", "count"]
theorem sc__are_counts : FnScope n__are_counts ["value"] (defScope s__are_counts) := ⟨rfl, rfl, rfl, by decide +kernel, rfl, by decide +kernel, by decide +kernel⟩
abbrev s_check_store : Stmt := topS 33
abbrev n_check_store : List Str := ["value"]
theorem sc_check_store : FnScope n_check_store ["value"] (defScope s_check_store) := ⟨rfl, rfl, rfl, by decide +kernel, rfl, by decide +kernel, by decide +kernel⟩
abbrev s_check_together : Stmt := topS 37
abbrev n_check_together : List Str := ["sizes", "gap"]
theorem sc_check_together : FnScope n_check_together ["sizes"] (defScope s_check_together) := ⟨rfl, rfl, rfl, by decide +kernel, rfl, by decide +kernel, by decide +kernel⟩
abbrev s_check_levels : Stmt := topS 38
abbrev n_check_levels : List Str := ["lot", "store"]
theorem sc_check_levels : FnScope n_check_levels ["lot", "store"] (defScope s_check_levels) := ⟨rfl, rfl, rfl, by decide +kernel, rfl, by decide +kernel, by decide +kernel⟩
abbrev s_levels_of : Stmt := topS 40
abbrev n_levels_of : List Str := ["lot", "store", "size"]
theorem sc_levels_of : FnScope n_levels_of ["lot", "store"] (defScope s_levels_of) := ⟨rfl, rfl, rfl, by decide +kernel, rfl, by decide +kernel, by decide +kernel⟩
abbrev s_fits : Stmt := topS 41
abbrev n_fits : List Str := ["lot", "store"]
theorem sc_fits : FnScope n_fits ["lot", "store"] (defScope s_fits) := ⟨rfl, rfl, rfl, by decide +kernel, rfl, by decide +kernel, by decide +kernel⟩
abbrev s_barring_sizes : Stmt := topS 42
abbrev n_barring_sizes : List Str := ["lot", "store", "size", "needed", "given"]
theorem sc_barring_sizes : FnScope n_barring_sizes ["lot", "store"] (defScope s_barring_sizes) := ⟨rfl, rfl, rfl, by decide +kernel, rfl, by decide +kernel, by decide +kernel⟩
abbrev s_spare : Stmt := topS 43
abbrev n_spare : List Str := ["lot", "store", "size", "levels", "each"]
theorem sc_spare : FnScope n_spare ["lot", "store", "size"] (defScope s_spare) := ⟨rfl, rfl, rfl, by decide +kernel, rfl, by decide +kernel, by decide +kernel⟩
abbrev s_check_most : Stmt := topS 45
abbrev n_check_most : List Str := ["lot", "store"]
theorem sc_check_most : FnScope n_check_most ["lot", "store"] (defScope s_check_most) := ⟨rfl, rfl, rfl, by decide +kernel, rfl, by decide +kernel, by decide +kernel⟩
abbrev s_most_things : Stmt := topS 47
abbrev n_most_things : List Str := ["lot", "store"]
theorem sc_most_things : FnScope n_most_things ["lot", "store"] (defScope s_most_things) := ⟨rfl, rfl, rfl, by decide +kernel, rfl, by decide +kernel, by decide +kernel⟩
abbrev s_most_total : Stmt := topS 48
abbrev n_most_total : List Str := ["lot", "store"]
theorem sc_most_total : FnScope n_most_total ["lot", "store"] (defScope s_most_total) := ⟨rfl, rfl, rfl, by decide +kernel, rfl, by decide +kernel, by decide +kernel⟩
abbrev s_keep_things : Stmt := topS 49
abbrev n_keep_things : List Str := ["lot", "store"]
theorem sc_keep_things : FnScope n_keep_things ["lot", "store"] (defScope s_keep_things) := ⟨rfl, rfl, rfl, by decide +kernel, rfl, by decide +kernel, by decide +kernel⟩
abbrev s_keep_total : Stmt := topS 50
abbrev n_keep_total : List Str := ["lot", "store"]
theorem sc_keep_total : FnScope n_keep_total ["lot", "store"] (defScope s_keep_total) := ⟨rfl, rfl, rfl, by decide +kernel, rfl, by decide +kernel, by decide +kernel⟩
abbrev s__filled : Stmt := topS 51
abbrev n__filled : List Str := ["part", "lot", "store", "sizes", "filled", "size"]
theorem sc__filled : FnScope n__filled ["part", "lot", "store", "sizes"] (defScope s__filled) := ⟨rfl, rfl, rfl, by decide +kernel, rfl, by decide +kernel, by decide +kernel⟩
abbrev s__is_fitting_part : Stmt := topS 52
abbrev n__is_fitting_part : List Str := ["lot", "store", "value"]
theorem sc__is_fitting_part : FnScope n__is_fitting_part ["lot", "store", "value"] (defScope s__is_fitting_part) := ⟨rfl, rfl, rfl, by decide +kernel, rfl, by decide +kernel, by decide +kernel⟩
abbrev s_things_paper : Stmt := topS 53
abbrev n_things_paper : List Str := ["lot", "store", "part"]
theorem sc_things_paper : FnScope n_things_paper ["lot", "store"] (defScope s_things_paper) := ⟨rfl, rfl, rfl, by decide +kernel, rfl, by decide +kernel, by decide +kernel⟩
abbrev s__one_more : Stmt := topS 54
abbrev n__one_more : List Str := ["lot", "part"]
theorem sc__one_more : FnScope n__one_more ["lot", "part"] (defScope s__one_more) := ⟨rfl, rfl, rfl, by decide +kernel, rfl, by decide +kernel, by decide +kernel⟩
abbrev s_total_paper : Stmt := topS 55
abbrev n_total_paper : List Str := ["lot", "store", "part", "left", "size"]
theorem sc_total_paper : FnScope n_total_paper ["lot", "store"] (defScope s_total_paper) := ⟨rfl, rfl, rfl, by decide +kernel, rfl, by decide +kernel, by decide +kernel⟩
abbrev s_is_things_paper : Stmt := topS 56
abbrev n_is_things_paper : List Str := ["lot", "store", "value", "part", "size"]
theorem sc_is_things_paper : FnScope n_is_things_paper ["lot", "store", "value"] (defScope s_is_things_paper) := ⟨rfl, rfl, rfl, by decide +kernel, rfl, by decide +kernel, by decide +kernel⟩
abbrev s_is_total_paper : Stmt := topS 57
abbrev n_is_total_paper : List Str := ["lot", "store", "value", "part", "size", "each"]
theorem sc_is_total_paper : FnScope n_is_total_paper ["lot", "store", "value"] (defScope s_is_total_paper) := ⟨rfl, rfl, rfl, by decide +kernel, rfl, by decide +kernel, by decide +kernel⟩
abbrev s__is_part_paper : Stmt := topS 58
abbrev n__is_part_paper : List Str := ["lot", "store", "value"]
theorem sc__is_part_paper : FnScope n__is_part_paper ["lot", "store", "value"] (defScope s__is_part_paper) := ⟨rfl, rfl, rfl, by decide +kernel, rfl, by decide +kernel, by decide +kernel⟩
abbrev s__law_dice : Stmt := topS 60
abbrev n__law_dice : List Str := ["script", "spot", "cell", "left"]
theorem sc__law_dice : FnScope n__law_dice ["script", "spot"] (defScope s__law_dice) := ⟨rfl, rfl, rfl, by decide +kernel, rfl, by decide +kernel, by decide +kernel⟩
abbrev s__law_roll : Stmt := topS 61
abbrev n__law_roll : List Str := ["dice", "total", "found", "one", "two"]
theorem sc__law_roll : FnScope n__law_roll ["dice", "total"] (defScope s__law_roll) := ⟨rfl, rfl, rfl, by decide +kernel, rfl, by decide +kernel, by decide +kernel⟩
abbrev s__law_pick : Stmt := topS 62
abbrev n__law_pick : List Str := ["dice", "items"]
theorem sc__law_pick : FnScope n__law_pick ["dice", "items"] (defScope s__law_pick) := ⟨rfl, rfl, rfl, by decide +kernel, rfl, by decide +kernel, by decide +kernel⟩
abbrev s__law_mixed : Stmt := topS 63
abbrev n__law_mixed : List Str := ["dice", "items", "left", "found", "turn"]
theorem sc__law_mixed : FnScope n__law_mixed ["dice", "items"] (defScope s__law_mixed) := ⟨rfl, rfl, rfl, by decide +kernel, rfl, by decide +kernel, by decide +kernel⟩
abbrev s__law_great : Stmt := topS 64
abbrev n__law_great : List Str := ["dice", "least", "way", "found", "turn"]
theorem sc__law_great : FnScope n__law_great ["dice", "least"] (defScope s__law_great) := ⟨rfl, rfl, rfl, by decide +kernel, rfl, by decide +kernel, by decide +kernel⟩
abbrev s__law_chain : Stmt := topS 65
abbrev n__law_chain : List Str := ["dice", "many", "start", "found", "turn"]
theorem sc__law_chain : FnScope n__law_chain ["dice", "many", "start"] (defScope s__law_chain) := ⟨rfl, rfl, rfl, by decide +kernel, rfl, by decide +kernel, by decide +kernel⟩
abbrev s__law_long_chain : Stmt := topS 66
abbrev n__law_long_chain : List Str := ["dice", "found", "turn", "step"]
theorem sc__law_long_chain : FnScope n__law_long_chain ["dice"] (defScope s__law_long_chain) := ⟨rfl, rfl, rfl, by decide +kernel, rfl, by decide +kernel, by decide +kernel⟩
abbrev s__law_small_lot : Stmt := topS 67
abbrev n__law_small_lot : List Str := ["dice", "sizes", "most", "found", "left", "size", "count"]
theorem sc__law_small_lot : FnScope n__law_small_lot ["dice", "sizes", "most"] (defScope s__law_small_lot) := ⟨rfl, rfl, rfl, by decide +kernel, rfl, by decide +kernel, by decide +kernel⟩
abbrev s__law_small_store : Stmt := topS 68
abbrev n__law_small_store : List Str := ["dice", "greatest", "most", "found", "turn"]
theorem sc__law_small_store : FnScope n__law_small_store ["dice", "greatest", "most"] (defScope s__law_small_store) := ⟨rfl, rfl, rfl, by decide +kernel, rfl, by decide +kernel, by decide +kernel⟩
abbrev s__law_great_lot : Stmt := topS 69
abbrev n__law_great_lot : List Str := ["dice", "sizes", "found", "size"]
theorem sc__law_great_lot : FnScope n__law_great_lot ["dice", "sizes"] (defScope s__law_great_lot) := ⟨rfl, rfl, rfl, by decide +kernel, rfl, by decide +kernel, by decide +kernel⟩
abbrev s__law_great_store : Stmt := topS 70
abbrev n__law_great_store : List Str := ["dice", "sizes", "found", "turn", "room"]
theorem sc__law_great_store : FnScope n__law_great_store ["dice", "sizes"] (defScope s__law_great_store) := ⟨rfl, rfl, rfl, by decide +kernel, rfl, by decide +kernel, by decide +kernel⟩
abbrev s__law_merged : Stmt := topS 71
abbrev n__law_merged : List Str := ["runs", "found", "room", "number"]
theorem sc__law_merged : FnScope n__law_merged ["runs"] (defScope s__law_merged) := ⟨rfl, rfl, rfl, by decide +kernel, rfl, by decide +kernel, by decide +kernel⟩
abbrev s__law_made_lot : Stmt := topS 72
abbrev n__law_made_lot : List Str := ["plain", "size"]
theorem sc__law_made_lot : FnScope n__law_made_lot ["plain"] (defScope s__law_made_lot) := ⟨rfl, rfl, rfl, by decide +kernel, rfl, by decide +kernel, by decide +kernel⟩
abbrev s__law_made_store : Stmt := topS 73
abbrev n__law_made_store : List Str := ["runs", "rest", "one", "two", "three", "four", "five", "six", "seven", "eight"]
theorem sc__law_made_store : FnScope n__law_made_store ["runs"] (defScope s__law_made_store) := ⟨rfl, rfl, rfl, by decide +kernel, rfl, by decide +kernel, by decide +kernel⟩
abbrev s__law_total : Stmt := topS 74
abbrev n__law_total : List Str := ["plain", "size"]
theorem sc__law_total : FnScope n__law_total ["plain"] (defScope s__law_total) := ⟨rfl, rfl, rfl, by decide +kernel, rfl, by decide +kernel, by decide +kernel⟩
abbrev s__law_units : Stmt := topS 75
abbrev n__law_units : List Str := ["plain", "size", "other"]
theorem sc__law_units : FnScope n__law_units ["plain", "size"] (defScope s__law_units) := ⟨rfl, rfl, rfl, by decide +kernel, rfl, by decide +kernel, by decide +kernel⟩
abbrev s__law_space : Stmt := topS 76
abbrev n__law_space : List Str := ["runs", "size", "room", "number"]
theorem sc__law_space : FnScope n__law_space ["runs", "size"] (defScope s__law_space) := ⟨rfl, rfl, rfl, by decide +kernel, rfl, by decide +kernel, by decide +kernel⟩
abbrev s__law_bars : Stmt := topS 77
abbrev n__law_bars : List Str := ["plain", "runs", "size"]
theorem sc__law_bars : FnScope n__law_bars ["plain", "runs"] (defScope s__law_bars) := ⟨rfl, rfl, rfl, by decide +kernel, rfl, by decide +kernel, by decide +kernel⟩
abbrev s__law_number : Stmt := topS 78
abbrev n__law_number : List Str := ["plain"]
theorem sc__law_number : FnScope n__law_number ["plain"] (defScope s__law_number) := ⟨rfl, rfl, rfl, by decide +kernel, rfl, by decide +kernel, by decide +kernel⟩
abbrev s__law_is_part : Stmt := topS 79
abbrev n__law_is_part : List Str := ["part", "plain", "size"]
theorem sc__law_is_part : FnScope n__law_is_part ["part", "plain"] (defScope s__law_is_part) := ⟨rfl, rfl, rfl, by decide +kernel, rfl, by decide +kernel, by decide +kernel⟩
abbrev s__law_smaller_total : Stmt := topS 80
abbrev n__law_smaller_total : List Str := ["plain", "size", "other"]
theorem sc__law_smaller_total : FnScope n__law_smaller_total ["plain", "size"] (defScope s__law_smaller_total) := ⟨rfl, rfl, rfl, by decide +kernel, rfl, by decide +kernel, by decide +kernel⟩
abbrev s__law_smallest : Stmt := topS 81
abbrev n__law_smallest : List Str := ["plain", "number", "found", "left", "size"]
theorem sc__law_smallest : FnScope n__law_smallest ["plain", "number"] (defScope s__law_smallest) := ⟨rfl, rfl, rfl, by decide +kernel, rfl, by decide +kernel, by decide +kernel⟩
abbrev s__law_is_shown : Stmt := topS 82
abbrev n__law_is_shown : List Str := ["plain", "runs", "one", "other", "part", "size", "counts", "bound"]
theorem sc__law_is_shown : FnScope n__law_is_shown ["plain", "runs", "one", "other"] (defScope s__law_is_shown) := ⟨rfl, rfl, rfl, by decide +kernel, rfl, by decide +kernel, by decide +kernel⟩
abbrev s__law_right : Stmt := topS 83
abbrev n__law_right : List Str := ["plain", "runs", "lot", "store", "one", "other"]
theorem sc__law_right : FnScope n__law_right ["plain", "runs"] (defScope s__law_right) := ⟨rfl, rfl, rfl, by decide +kernel, rfl, by decide +kernel, by decide +kernel⟩
abbrev s_law : Stmt := topS 84
abbrev n_law : List Str := ["script", "spot", "dice", "turn", "chain", "long"]
theorem sc_law : FnScope n_law ["script"] (defScope s_law) := ⟨rfl, rfl, rfl, by decide +kernel, rfl, by decide +kernel, by decide +kernel⟩
abbrev s_Lot_init : Stmt := inClass (topS 30) 0
abbrev n_Lot_init : List Str := ["self", "counts", "told", "size"]
theorem sc_Lot_init : FnScope n_Lot_init ["self", "counts"] (defScope s_Lot_init) := ⟨rfl, rfl, rfl, by decide +kernel, rfl, by decide +kernel, by decide +kernel⟩
abbrev s_Lot_counts : Stmt := inClass (topS 30) 2
abbrev n_Lot_counts : List Str := ["self"]
theorem sc_Lot_counts : FnScope n_Lot_counts ["self"] (defScope s_Lot_counts) := ⟨rfl, rfl, rfl, by decide +kernel, rfl, by decide +kernel, by decide +kernel⟩
abbrev s_Lot_sizes : Stmt := inClass (topS 30) 3
abbrev n_Lot_sizes : List Str := ["self"]
theorem sc_Lot_sizes : FnScope n_Lot_sizes ["self"] (defScope s_Lot_sizes) := ⟨rfl, rfl, rfl, by decide +kernel, rfl, by decide +kernel, by decide +kernel⟩
abbrev s_Lot_number : Stmt := inClass (topS 30) 5
abbrev n_Lot_number : List Str := ["self"]
theorem sc_Lot_number : FnScope n_Lot_number ["self"] (defScope s_Lot_number) := ⟨rfl, rfl, rfl, by decide +kernel, rfl, by decide +kernel, by decide +kernel⟩
abbrev s_Lot_total : Stmt := inClass (topS 30) 6
abbrev n_Lot_total : List Str := ["self", "size", "count"]
theorem sc_Lot_total : FnScope n_Lot_total ["self"] (defScope s_Lot_total) := ⟨rfl, rfl, rfl, by decide +kernel, rfl, by decide +kernel, by decide +kernel⟩
abbrev s_Lot_units : Stmt := inClass (topS 30) 8
abbrev n_Lot_units : List Str := ["self", "size", "each"]
theorem sc_Lot_units : FnScope n_Lot_units ["self", "size"] (defScope s_Lot_units) := ⟨rfl, rfl, rfl, by decide +kernel, rfl, by decide +kernel, by decide +kernel⟩
abbrev s_Lot_is_part_of : Stmt := inClass (topS 30) 12
abbrev n_Lot_is_part_of : List Str := ["self", "value", "size", "count"]
theorem sc_Lot_is_part_of : FnScope n_Lot_is_part_of ["self", "value"] (defScope s_Lot_is_part_of) := ⟨rfl, rfl, rfl, by decide +kernel, rfl, by decide +kernel, by decide +kernel⟩
abbrev s_Lot_with_count : Stmt := inClass (topS 30) 13
abbrev n_Lot_with_count : List Str := ["self", "size", "number", "counts", "each", "count"]
theorem sc_Lot_with_count : FnScope n_Lot_with_count ["self", "size", "number"] (defScope s_Lot_with_count) := ⟨rfl, rfl, rfl, by decide +kernel, rfl, by decide +kernel, by decide +kernel⟩
abbrev s_Lot_add : Stmt := inClass (topS 30) 15
abbrev n_Lot_add : List Str := ["self", "other", "sizes", "counts", "size"]
theorem sc_Lot_add : FnScope n_Lot_add ["self", "other"] (defScope s_Lot_add) := ⟨rfl, rfl, rfl, by decide +kernel, rfl, by decide +kernel, by decide +kernel⟩
abbrev s_Lot_getitem : Stmt := inClass (topS 30) 18
abbrev n_Lot_getitem : List Str := ["self", "at"]
theorem sc_Lot_getitem : FnScope n_Lot_getitem ["self", "at"] (defScope s_Lot_getitem) := ⟨rfl, rfl, rfl, by decide +kernel, rfl, by decide +kernel, by decide +kernel⟩
abbrev s_Lot_contains : Stmt := inClass (topS 30) 19
abbrev n_Lot_contains : List Str := ["self", "x"]
theorem sc_Lot_contains : FnScope n_Lot_contains ["self", "x"] (defScope s_Lot_contains) := ⟨rfl, rfl, rfl, by decide +kernel, rfl, by decide +kernel, by decide +kernel⟩
abbrev s_Lot_len : Stmt := inClass (topS 30) 21
abbrev s_Lot_eq : Stmt := inClass (topS 30) 22
abbrev n_Lot_eq : List Str := ["self", "other"]
theorem sc_Lot_eq : FnScope n_Lot_eq ["self", "other"] (defScope s_Lot_eq) := ⟨rfl, rfl, rfl, by decide +kernel, rfl, by decide +kernel, by decide +kernel⟩
abbrev s_Store_init : Stmt := inClass (topS 35) 0
abbrev n_Store_init : List Str := ["self", "runs", "run", "joined"]
theorem sc_Store_init : FnScope n_Store_init ["self", "runs"] (defScope s_Store_init) := ⟨rfl, rfl, rfl, by decide +kernel, rfl, by decide +kernel, by decide +kernel⟩
abbrev s_Store_units : Stmt := inClass (topS 35) 8
abbrev n_Store_units : List Str := ["self", "size"]
theorem sc_Store_units : FnScope n_Store_units ["self", "size"] (defScope s_Store_units) := ⟨rfl, rfl, rfl, by decide +kernel, rfl, by decide +kernel, by decide +kernel⟩
structure Bl (mg : Str → Option Value) : Prop where
  abs : mg "abs" = none
  all : mg "all" = none
  any : mg "any" = none
  bool : mg "bool" = none
  dict : mg "dict" = none
  int : mg "int" = none
  isinstance : mg "isinstance" = none
  len : mg "len" = none
  list : mg "list" = none
  max : mg "max" = none
  min : mg "min" = none
  range : mg "range" = none
  set : mg "set" = none
  sorted : mg "sorted" = none
  str : mg "str" = none
  sum : mg "sum" = none
  tuple : mg "tuple" = none
  zip : mg "zip" = none
structure Cs (mg : Str → Option Value) : Prop where
  one : True
  c_MAX_FIGURES : ∃ u, mg "MAX_FIGURES" = some u ∧ RelV (.int 200) u
  c_MAX_RUNS : ∃ u, mg "MAX_RUNS" = some u ∧ RelV (.int 40) u
  c_MAX_SIZES : ∃ u, mg "MAX_SIZES" = some u ∧ RelV (.int 12) u
def spLaw (K : PySem.W.Frag) : Sp := fun vs H Q _ => ∃ (a : Addr) (ns : List Int), vs = [.ref a] ∧ SqL K H a (ns.map V.int) ∧ ns.length ≤ 63 ∧ ∀ H', Q (.bl true) H'
section
variable {P : Program} {w : World} {K : PySem.W.Frag} {mg : Str → Option Value} {base : Heap}
theorem ok_int (B : Bl mg) (T : Cs mg) (D : Df K mg "is_integer" s_is_integer ["value"]) : Cl P w K mg base 1 "is_integer" (spNum K intB) := by
  refine cl_of D sc_is_integer (fun vs H Q E h => ?_) (fun f cdv A fr s H vs Q E hr h => ?_)
  · obtain ⟨x, b, rfl, _⟩ := h
    rfl
  · obtain ⟨x, b, rfl, hx, q⟩ := h
    refine ⟨_, (pss_cons (ps_if (pw_or (pt_not (pt_val (pe_callB call_isi (by rfl) B.isinstance bt_isinstance (pa_cons (pv 0) (pa_cons (pe_bltn (v := V.ty "int") (by rfl) B.int bt_int rfl) pa_nil))))) (pw_or1 (pt_val (pe_callB call_isi (by rfl) B.isinstance bt_isinstance (pa_cons (pv 0) (pa_cons (pe_bltn (v := V.ty "bool") (by rfl) B.bool bt_bool rfl) pa_nil)))))).pt (pss_one (ps_ret pe_bl)) pss_nil)
    (pss_cons (ps_if (pt_cmpR op_gt (pe_bits (pv 0)) (pe_op op_mul pe_int (pe_gc2 (by rfl) T.c_MAX_FIGURES)) (nomark _)) (pss_one (ps_ret pe_bl)) pss_nil)
     (pss_one (ps_ret (pe_cmpR op_le (pe_callB call_len_str (by rfl) B.len bt_len (pa_cons (pe_callTy call_str_int (by rfl) B.str bt_str (pa_cons (pe_callB call_abs (by rfl) B.abs bt_abs (pa_cons (pv 0) pa_nil)) pa_nil)) pa_nil)) (pe_gc2 (by rfl) T.c_MAX_FIGURES) (nomark _)))))), ?_⟩
    rcases hx with ⟨i, rfl, rfl⟩ | ⟨ho, rfl⟩
    · refine Evl.q_when (b := false) (Evl.et_is (Evl.et_or (Evl.et_not (Evl.et_B (ev_isi (Evl.ev_var rfl) Evl.ev_c (.ty _) (fun _ _ => .base (.int i)) (kit_ty (r := true) (by decide +kernel)))))
        (fun _ => Evl.et_B (ev_isi (Evl.ev_var rfl) Evl.ev_c (.ty _) (fun _ _ => .base (.int i)) (kit_ty (r := false) (by decide +kernel))))) rfl) (fun z => nomatch z) (fun _ H1 e1 => ?_)
      refine Evl.q_when (Evl.et_test (ev_i0 (ev_bits (Evl.ev_var rfl)) (ev_i Evl.ev_c Evl.ev_c (.inl (by decide))))) (fun z H2 e2 => ?_) (fun z H2 e2 => ?_)
      · have z' := bits_big (of_decide_eq_true z)
        rw [z'] at q
        exact q H2 (e1.trans e2)
      · have z' := bits_small (of_decide_eq_false z)
        refine Evl.s_ret (Evl.ev_is (ev_i0 (ev_lenS (ev_strI (ev_abs (Evl.ev_var rfl)) ?_) ?_) Evl.ev_c) (congrArg V.bl (short_eq i))) (fun H3 e3 => q H3 ((e1.trans e2).trans e3))
        · rw [abs_if]
          exact z'
        · rw [abs_if]
          have lt : i.natAbs < 10 ^ 600 := Nat.lt_trans (Nat.lt_of_lt_of_le Nat.lt_log2_self (Nat.pow_le_pow_right (by decide) z')) (by decide +kernel)
          exact Nat.le_trans ((num_len i.natAbs 600 (by decide)).mpr lt) (by decide)
    · cases ho with
      | no n h k =>
        refine Evl.q_when (b := true) (Evl.et_is (Evl.et_or (b := true) (Evl.et_not (Evl.et_B (ev_isi (Evl.ev_var rfl) Evl.ev_c (.ty _) (fun _ e => tyM e h) (kit_ty k)))) (fun z => nomatch z)) rfl) (fun _ H1 e1 => ?_) (fun z => nomatch z)
        exact q H1 e1
      | bl b h =>
        subst h
        refine Evl.q_when (b := true) (Evl.et_is (Evl.et_or (Evl.et_not (Evl.et_B (ev_isi (Evl.ev_var rfl) Evl.ev_c (.ty _) (fun _ _ => .base (.bl b)) (kit_ty (r := true) (by decide +kernel)))))
          (fun _ => Evl.et_B (ev_isi (Evl.ev_var rfl) Evl.ev_c (.ty _) (fun _ _ => .base (.bl b)) (kit_ty (r := true) (by decide +kernel))))) rfl) (fun _ H1 e1 => ?_) (fun z => nomatch z)
        exact q H1 e1
theorem ok_count (B : Bl mg) (D : Df K mg "is_count" s_is_count ["value"]) (C_is_integer : Cl P w K mg base 1 "is_integer" (spNum K intB)) : Cl P w K mg base 2 "is_count" (spNum K cntB) := by
  refine cl_of D sc_is_count (fun vs H Q E h => ?_) (fun f cdv A fr s H vs Q E hr h => ?_)
  · obtain ⟨x, b, rfl, _⟩ := h
    rfl
  · obtain ⟨x, b, rfl, hx, q⟩ := h
    refine ⟨_, (pss_one (ps_ret (pe_and (pcal C_is_integer hr (pa_cons (pv 0) pa_nil)) (pe_one (pe_cmpR op_ge (pv 0) pe_int (nomark _)))))), ?_⟩
    rcases hx with ⟨i, rfl, rfl⟩ | ⟨ho, rfl⟩
    · exact Evl.s_ret (Evl.ev_andV (ev_call1 (Evl.ev_var rfl) num_i) (fun _ => ev_i0 (Evl.ev_var rfl) Evl.ev_c)) q
    · exact Evl.s_ret (Evl.ev_is (Evl.ev_andV (b := true) (ev_call1 (Evl.ev_var rfl) (num_o ho)) (fun z => nomatch z)) rfl) q
theorem ok_size (B : Bl mg) (D : Df K mg "is_size" s_is_size ["value"]) (C_is_integer : Cl P w K mg base 1 "is_integer" (spNum K intB)) : Cl P w K mg base 2 "is_size" (spNum K sizB) := by
  refine cl_of D sc_is_size (fun vs H Q E h => ?_) (fun f cdv A fr s H vs Q E hr h => ?_)
  · obtain ⟨x, b, rfl, _⟩ := h
    rfl
  · obtain ⟨x, b, rfl, hx, q⟩ := h
    refine ⟨_, (pss_one (ps_ret (pe_and (pcal C_is_integer hr (pa_cons (pv 0) pa_nil)) (pe_one (pe_cmpR op_ge (pv 0) pe_int (nomark _)))))), ?_⟩
    rcases hx with ⟨i, rfl, rfl⟩ | ⟨ho, rfl⟩
    · exact Evl.s_ret (Evl.ev_andV (ev_call1 (Evl.ev_var rfl) num_i) (fun _ => ev_i0 (Evl.ev_var rfl) Evl.ev_c)) q
    · exact Evl.s_ret (Evl.ev_is (Evl.ev_andV (b := true) (ev_call1 (Evl.ev_var rfl) (num_o ho)) (fun z => nomatch z)) rfl) q

theorem ok_gapB (B : Bl mg) (D : Df K mg "first_gap" s_first_gap ["sizes"]) : Cg P w K mg base CX0 1 "first_gap" (spGapB K) := by
  refine cg_of D sc_first_gap (fun vs H Q E h => ?_) (fun f cdv A fr s H vs Q E hr hgd h => ?_)
  · obtain ⟨p, ns, rfl, _⟩ := h
    rfl
  · obtain ⟨p, ns, rfl, hp, hpos, q⟩ := h
    refine ⟨_, (pss_cons (ps_for PassesOwn.never rfl (pi_zipX (by rfl) B.zip (pa_cons (pv 0) (pa_cons (pe_slice sl_both (pv 0) (po_some pe_int) po_none) pa_nil))) (pg_tup (n := 2) rfl (pgs_cons (pg_name (i := 1) sc_first_gap.nd rfl (by first | exact Or.inl rfl | exact Or.inr rfl)) (pgs_cons (pg_name (i := 2) sc_first_gap.nd rfl (by first | exact Or.inl rfl | exact Or.inr rfl)) pgs_nil))) (pss_one (ps_if (pt_cmpR op_ne (pe_op op_mod (pv 2) (pv 1)) pe_int (nomark _)) (pss_one (ps_ret (pe_tup (pa_cons (pv 1) (pa_cons (pv 2) pa_nil))))) pss_nil)))
    (pss_one (ps_ret pe_non))), ?_⟩
    rcases hp with hp | ⟨hp, hne⟩
    · refine zip_goBL (K := K) rfl hp fun c hc => ?_
      have hp1 := Evl.ex_l (Evl.Ex.new (o := .lst ((ns.drop 1).map V.int)) hc) hp
      have hc1 : SqL K (upd H c (.lst ((ns.drop 1).map V.int))) c ((ns.drop 1).map V.int) := SqL.of upd_same
      have e0 : Evl.Ex H (upd H c (.lst ((ns.drop 1).map V.int))) := Evl.Ex.new hc
      generalize upd H c (.lst ((ns.drop 1).map V.int)) = H1 at hp1 hc1 e0 ⊢
      refine for_it (walk_zip (min_zip ns)) (fun i σ H' => Evl.Ex H1 H' ∧ (∃ y z, σ = [some (.ref p), y, z]) ∧ ∀ j, j < i → ns.getD (j + 1) 0 % ns.getD j 0 = 0) ⟨Evl.Ex.refl _, ⟨_, _, rfl⟩, fun j hj => absurd hj (Nat.not_lt_zero j)⟩
        (fun i σ H' _ h => ⟨Evl.ex_l h.1 hp1, Evl.ex_l h.1 hc1⟩) ?_ ?_
      · rintro i _ σ H' _ hi ⟨e1, ⟨y0, z0, rfl⟩, hj⟩ ⟨t, x, y, rfl, ht, rfl, hx, hy⟩
        obtain ⟨rfl, rfl, hi2⟩ := at_zip hx hy
        have lp : 0 < ns.getD i 0 := by
          rw [List.getD_eq_getElem?_getD, List.getElem?_eq_getElem (show i < ns.length by omega)]
          exact hpos _ (List.getElem_mem _)
        refine ⟨t, _, rfl, SqT.of upd_same, rfl, _, _, rfl, _, _, rfl, rfl, ?_⟩
        refine Evl.s_if (b := !decide (ns.getD (i + 1) 0 % ns.getD i 0 = 0)) (Evl.et_test (Evl.ev_is (ev_ne (ev_i (Evl.ev_var rfl) (Evl.ev_var rfl) lp) Evl.ev_c rfl) ?_)) (fun z H2 e2 => ?_) (fun z H2 e2 => ?_)
        · exact decI _ _
        · have e : gap ns = some (ns.getD i 0, ns.getD (i + 1) 0) := gap_some hi2 hj (by have z' := nt z; exact of_decide_eq_false z')
          rw [e] at q
          refine ed_tup (K := K) (ed_cons (ed_int (Evl.ev_var rfl)) (ed_cons (ed_int (Evl.ev_var rfl)) ed_nil)) (show 2 ≤ 100000 by decide) H2 (Evl.Ex.refl H2) _ (fun v H3 e3 hd => ?_)
          exact q v H3 (((e0.trans e1).trans (Evl.Ex.new ht)).trans (e2.trans e3)) hd
        · refine ⟨(e1.trans (Evl.Ex.new ht)).trans e2, ⟨_, _, rfl⟩, fun j hj2 => ?_⟩
          by_cases ej : j = i
          · rw [ej]; exact of_decide_eq_true (nf z)
          · exact hj j (by omega)
      · rintro σ H' ⟨e1, ⟨y0, z0, rfl⟩, hj⟩
        have e : gap ns = none := gap_none hj
        rw [e] at q
        exact q .non H' (e0.trans e1) .non
    · refine zip_goBT (K := K) rfl hp hne fun c hc => ?_
      have hp1 := Evl.ex_t (Evl.Ex.new (o := .tup ((ns.drop 1).map V.int)) hc) hp
      have hc1 : SqT K (upd H c (.tup ((ns.drop 1).map V.int))) c ((ns.drop 1).map V.int) := SqT.of upd_same
      have e0 : Evl.Ex H (upd H c (.tup ((ns.drop 1).map V.int))) := Evl.Ex.new hc
      generalize upd H c (.tup ((ns.drop 1).map V.int)) = H1 at hp1 hc1 e0 ⊢
      refine for_it (walk_zipT (min_zip ns)) (fun i σ H' => Evl.Ex H1 H' ∧ (∃ y z, σ = [some (.ref p), y, z]) ∧ ∀ j, j < i → ns.getD (j + 1) 0 % ns.getD j 0 = 0) ⟨Evl.Ex.refl _, ⟨_, _, rfl⟩, fun j hj => absurd hj (Nat.not_lt_zero j)⟩
        (fun i σ H' _ h => ⟨Evl.ex_t h.1 hp1, Evl.ex_t h.1 hc1⟩) ?_ ?_
      · rintro i _ σ H' _ hi ⟨e1, ⟨y0, z0, rfl⟩, hj⟩ ⟨t, x, y, rfl, ht, rfl, hx, hy⟩
        obtain ⟨rfl, rfl, hi2⟩ := at_zip hx hy
        have lp : 0 < ns.getD i 0 := by
          rw [List.getD_eq_getElem?_getD, List.getElem?_eq_getElem (show i < ns.length by omega)]
          exact hpos _ (List.getElem_mem _)
        refine ⟨t, _, rfl, SqT.of upd_same, rfl, _, _, rfl, _, _, rfl, rfl, ?_⟩
        refine Evl.s_if (b := !decide (ns.getD (i + 1) 0 % ns.getD i 0 = 0)) (Evl.et_test (Evl.ev_is (ev_ne (ev_i (Evl.ev_var rfl) (Evl.ev_var rfl) lp) Evl.ev_c rfl) ?_)) (fun z H2 e2 => ?_) (fun z H2 e2 => ?_)
        · exact decI _ _
        · have e : gap ns = some (ns.getD i 0, ns.getD (i + 1) 0) := gap_some hi2 hj (by have z' := nt z; exact of_decide_eq_false z')
          rw [e] at q
          refine ed_tup (K := K) (ed_cons (ed_int (Evl.ev_var rfl)) (ed_cons (ed_int (Evl.ev_var rfl)) ed_nil)) (show 2 ≤ 100000 by decide) H2 (Evl.Ex.refl H2) _ (fun v H3 e3 hd => ?_)
          exact q v H3 (((e0.trans e1).trans (Evl.Ex.new ht)).trans (e2.trans e3)) hd
        · refine ⟨(e1.trans (Evl.Ex.new ht)).trans e2, ⟨_, _, rfl⟩, fun j hj2 => ?_⟩
          by_cases ej : j = i
          · rw [ej]; exact of_decide_eq_true (nf z)
          · exact hj j (by omega)
      · rintro σ H' ⟨e1, ⟨y0, z0, rfl⟩, hj⟩
        have e : gap ns = none := gap_none hj
        rw [e] at q
        exact q .non H' (e0.trans e1) .non

def spChkN (f : Int → Bool) : Sp := fun vs H Q _ => ∃ a : Int, vs = [.int a] ∧ f a = true ∧ ∀ H', Evl.Ex H H' → Q .non H'
theorem ok_chks (B : Bl mg) (D : Df K mg "check_size" s_check_size ["value"]) (C_is_size : Cl P w K mg base 2 "is_size" (spNum K sizB)) : Cl P w K mg base 3 "check_size" (spChkN sizB) := by
  refine cl_of D sc_check_size (fun vs H Q E h => ?_) (fun f cdv A fr s H vs Q E hr h => ?_)
  · obtain ⟨a, rfl, _⟩ := h
    rfl
  · obtain ⟨a, rfl, ha, q⟩ := h
    refine ⟨_, (pss_one (ps_if (pt_not (pt_val (pcal C_is_size hr (pa_cons (pv 0) pa_nil)))) (pss_one ps_never) pss_nil)), ?_⟩
    exact Evl.s_when (b := false) (Evl.et_is (Evl.et_not (Evl.et_B (ev_call1 (Evl.ev_var rfl) num_i))) (by rw [ha]; rfl)) (fun z => nomatch z) (fun _ H1 e1 => q H1 e1)
theorem ok_chkn (B : Bl mg) (D : Df K mg "check_count" s_check_count ["value"]) (C_is_count : Cl P w K mg base 2 "is_count" (spNum K cntB)) : Cg P w K mg base CX0 3 "check_count" (spChkN cntB) := by
  refine cg_of D sc_check_count (fun vs H Q E h => ?_) (fun f cdv A fr s H vs Q E hr hgd h => ?_)
  · obtain ⟨a, rfl, _⟩ := h
    rfl
  · obtain ⟨a, rfl, ha, q⟩ := h
    refine ⟨_, (pss_one (ps_if (pt_not (pt_val (pcal C_is_count hr (pa_cons (pv 0) pa_nil)))) (pss_one ps_never) pss_nil)), ?_⟩
    exact Evl.s_when (b := false) (Evl.et_is (Evl.et_not (Evl.et_B (ev_call1 (Evl.ev_var rfl) num_i))) (by rw [ha]; rfl)) (fun z => nomatch z) (fun _ H1 e1 => q H1 e1)
theorem chkn_v {f : Int → Bool} {H : Hp} {a : Int} (h : f a = true) : Evl.SpV (spChkN f) [.int a] H .non := fun H1 e Q q E => ⟨a, rfl, h, q⟩
theorem ok_chklot (B : Bl mg) {CL : Addr} (LT_Lot : LotT K mg CL) (D : Df K mg "check_lot" s_check_lot ["value"]) : Cl P w K mg base 1 "check_lot" (spIsLot K CL) := by
  refine cl_of D sc_check_lot (fun vs H Q E h => ?_) (fun f cdv A fr s H vs Q E hr h => ?_)
  · obtain ⟨a, ps, rfl, _⟩ := h
    rfl
  · obtain ⟨a, ps, rfl, hl, q⟩ := h
    refine ⟨_, (pss_one (ps_if (pt_not (pt_val (pe_callB call_isi (by rfl) B.isinstance bt_isinstance (pa_cons (pv 0) (pa_cons (pe_glob (v := V.ref _) (by rfl) LT_Lot.k.g rfl) pa_nil))))) (pss_one ps_never) pss_nil)), ?_⟩
    obtain ⟨dx, t1, t2, d, ts, h1, _⟩ := hl.ex
    exact Evl.s_when (b := false) (Evl.et_is (Evl.et_not (Evl.et_B (ev_isi (Evl.ev_var rfl) Evl.ev_c (.own CL) (fun H1 e => LT_Lot.k.ty (e _ _ h1)) kit_self))) rfl) (fun z => nomatch z) (fun _ H1 e1 => q H1 e1)
theorem ok_arec (B : Bl mg) (T : Cs mg) (D : Df K mg "_are_counts" s__are_counts ["value"]) (C_is_size : Cl P w K mg base 2 "is_size" (spNum K sizB)) : Cl P w K mg base 3 "_are_counts" (spAreC K) := by
  refine cl_of D sc__are_counts (fun vs H Q E h => ?_) (fun f cdv A fr s H vs Q E hr h => ?_)
  · obtain ⟨d, ps, rfl, _⟩ := h
    rfl
  · obtain ⟨d, ps, rfl, hd, hc, q⟩ := h
    refine ⟨_, (pss_cons (ps_if (pw_or (pt_not (pt_val (pe_callB call_isi (by rfl) B.isinstance bt_isinstance (pa_cons (pv 0) (pa_cons (pe_bltn (v := V.ty "dict") (by rfl) B.dict bt_dict rfl) pa_nil))))) (pw_or1 (pt_cmpR op_gt (pe_callB call_lenD (by rfl) B.len bt_len (pa_cons (pv 0) pa_nil)) (pe_gc2 (by rfl) T.c_MAX_SIZES) (nomark _)))).pt (pss_one (ps_ret pe_bl)) pss_nil)
    (pss_one (ps_ret (pe_callB (cr_all rfl) (by rfl) B.all bt_all (pa_cons (pe_lock (pe_lc (own := [("size", 1), ("count", 2)]) (g := (gTup K 2 (gCons (gName 1) (gCons (gName 2) gNil)))) rfl sc__are_counts.nd (pi_items (pv 0)) (blkOk_by (own := [("size", 1), ("count", 2)]) (N := n__are_counts) (sc := defScope s__are_counts) (by decide +kernel)) (fun _ _ _ _ _ => (pg_tup (n := 2) rfl (pgs_cons (pg_name (i := 1) sc__are_counts.nd rfl (by first | exact Or.inl rfl | exact Or.inr rfl)) (pgs_cons (pg_name (i := 2) sc__are_counts.nd rfl (by first | exact Or.inl rfl | exact Or.inr rfl)) pgs_nil)))) (fun _ _ _ _ _ => pts_nil) (fun _ _ _ _ _ => (pe_and (pcal C_is_size hr (pa_cons (pv 1) pa_nil)) (pe_one (pcal C_is_size hr (pa_cons (pv 2) pa_nil))))))) pa_nil))))), ?_⟩
    have hl := hc.ln
    refine Evl.q_when (b := false) (Evl.et_is (Evl.et_or (Evl.et_not (Evl.et_B (ev_isi (Evl.ev_var rfl) Evl.ev_c (.ty _) (fun H1 e => .base (.dK (e _ _ hd))) (kit_ty (r := true) (by decide +kernel)))))
      (fun _ => Evl.et_test (ev_i0 (ev_lenD (Evl.ev_var rfl) hd) Evl.ev_c))) ?_) (fun z => nomatch z) (fun _ H1 e1 => ?_)
    · rw [List.length_map]
      exact decide_eq_false (by omega)
    refine Evl.s_ret (Evl.ev_is (ev_all (K := K) (bs := (List.range (ps.map kc).length).map fun _ => true) (Ck.el_is (el_lcI (fun _ => true) (fun _ => .bl true) (fun _ => Evl.ev_var rfl) (e1 _ _ hd) (by rw [List.length_map]; omega) (fun _ _ => rfl) (fun _ _ _ H2 _ _ H3 _ Q q => q H3 (Evl.Ex.refl H3)) (fun i k x H2 hk _ _ => ?_)) ?_)) ?_) (fun H2 e2 => q H2 (e1.trans e2))
    · rw [List.getElem?_map] at hk
      obtain ⟨p, hp, e⟩ := Option.map_eq_some_iff.mp hk
      obtain ⟨rfl, rfl⟩ := Prod.mk.inj e
      obtain ⟨s1, s2⟩ := hc.ok p (List.mem_of_getElem? hp)
      exact Evl.ev_is (Evl.ev_andV (ev_call1 (Evl.ev_var rfl) num_i) (fun _ => ev_call1 (Evl.ev_var rfl) num_i)) (by rw [s1, s2]; rfl)
    · rw [given_all, List.map_map]
      rfl
    · rw [List.all_map]
      exact congrArg V.bl (List.all_eq_true.mpr fun _ _ => rfl)
theorem ok_lotsizes {CL : Addr} (LT_Lot : LotT K mg CL) (D : Dpr K CL "sizes" "Lot.sizes" s_Lot_sizes) : Pg P w K mg base 1 CL "sizes" (spSizes K CL) := by
  refine pg_of LT_Lot.k.cl D sc_Lot_sizes (fun vs H Q E h => ?_) (fun f cdv A fr s H vs Q E hr h => ?_)
  · obtain ⟨a, ps, rfl, _⟩ := h
    rfl
  · obtain ⟨a, ps, rfl, hl, q⟩ := h
    refine ⟨_, (pss_one (ps_ret (pe_fld (pv 0) rfl))), ?_⟩
    obtain ⟨dx, t1, t2, d, ts, h1, h2, _⟩ := hl.ex
    exact ⟨_, rfl, a, CL, dx, _, _, rfl, h1, LT_Lot.k.cl, LT_Lot.n1, lot_sizes t1 t2 d, q t1 H (Evl.Ex.refl H) h2⟩
theorem ok_lottotal (B : Bl mg) {CL : Addr} (LT_Lot : LotT K mg CL) (D : Dpr K CL "total" "Lot.total" s_Lot_total) : Pg P w K mg base 1 CL "total" (spTotal K CL) := by
  refine pg_of LT_Lot.k.cl D sc_Lot_total (fun vs H Q E h => ?_) (fun f cdv A fr s H vs Q E hr h => ?_)
  · obtain ⟨a, ps, rfl, _⟩ := h
    rfl
  · obtain ⟨a, ps, rfl, hl, hc, q⟩ := h
    refine ⟨_, (pss_one (ps_ret (pe_callB (cr_sum rfl) (by rfl) B.sum bt_sum (pa_cons (pe_lc (own := [("size", 1), ("count", 2)]) (g := (gTup K 2 (gCons (gName 1) (gCons (gName 2) gNil)))) rfl sc_Lot_total.nd (pi_tup (pe_fld (pv 0) rfl)) (blkOk_by (own := [("size", 1), ("count", 2)]) (N := n_Lot_total) (sc := defScope s_Lot_total) (by decide +kernel)) (fun _ _ _ _ _ => (pg_tup (n := 2) rfl (pgs_cons (pg_name (i := 1) sc_Lot_total.nd rfl (by first | exact Or.inl rfl | exact Or.inr rfl)) (pgs_cons (pg_name (i := 2) sc_Lot_total.nd rfl (by first | exact Or.inl rfl | exact Or.inr rfl)) pgs_nil)))) (fun _ _ _ _ _ => pts_nil) (fun _ _ _ _ _ => (pe_op op_mulW (pv 1) (pv 2)))) pa_nil)))), ?_⟩
    obtain ⟨dx, t1, t2, d, ts, h1, h2, h3, h4, h5⟩ := hl.ex
    refine Evl.s_ret (Evl.ev_is (ev_sum (K := K) (ns := ps.map fun p => p.1 * p.2) (Ck.el_is (el_lcP (fun p => .int (p.1 * p.2)) (ev_fldL (Evl.ev_var rfl) h1 LT_Lot.k.cl LT_Lot.n2 (lot_pairs t1 t2 d)) h3 h4 (by have := hc.ln; omega) (fun _ _ => rfl) (fun p hp H1 _ => ?_)) ?_)) rfl) q
    · obtain ⟨s1, s2⟩ := hc.ok p hp
      exact ev_i (g := fun i j => .int (i * j)) (Evl.ev_var rfl) (Evl.ev_var rfl) (mul200 (siz_nat s1) (siz_nat s2))
    · rw [List.map_map]
      rfl
theorem ok_lotitem {CL : Addr} (LT_Lot : LotT K mg CL) (D : Dop K CL "__getitem__" "Lot.__getitem__" s_Lot_getitem ["self", "at"]) (C_check_size : Cl P w K mg base 3 "check_size" (spChkN sizB)) : Og P w K mg base 4 CL "__getitem__" ["self", "at"] (spItem K CL) := by
  refine og_of LT_Lot.k.cl D sc_Lot_getitem (fun vs H Q E h => ?_) (fun f cdv A fr s H vs Q E hr h => ?_)
  · obtain ⟨a, z, ps, rfl, _⟩ := h
    rfl
  · obtain ⟨a, z, ps, rfl, hl, hz, q⟩ := h
    refine ⟨_, (pss_cons (ps_expr (pcal C_check_size hr (pa_cons (pv 1) pa_nil)))
    (pss_one (ps_ret (pe_dget2 (hu_of hr) (pe_fld (pv 0) rfl) (pv 1) pe_int ⟨rfl, rfl, rfl, rfl⟩)))), ?_⟩
    refine Evl.q_drop (ev_call1 (Evl.ev_var rfl) (chkn_v hz)) (fun H1 e1 => ?_)
    obtain ⟨dx, t1, t2, d, ts, h1, h2, h3, h4, h5⟩ := (hl.up e1).ex
    exact Evl.s_ret (ev_dget2 (c := 0) (ev_fldL (Evl.ev_var rfl) h1 LT_Lot.k.cl LT_Lot.n3 (lot_counts t1 t2 d)) (Evl.ev_var rfl) Evl.ev_c h5) (fun H2 e2 => q H2 (e1.trans e2))
theorem ok_lotinit (B : Bl mg) {CL : Addr} (LT_Lot : LotT K mg CL) (D : Din K mg "Lot" CL "Lot.__init__" s_Lot_init ["self", "counts"]) (C__are_counts : Cl P w K mg base 3 "_are_counts" (spAreC K)) :
    Mkc P w K mg base 4 "Lot" CL (spLotI K CL) ∧ Mkc P w K mg base 4 "Lot" CL fun vs H Q E => spLotI K CL (vs ++ [.non]) H Q E := by
  refine mkc_of D sc_Lot_init (fun vs H Q E h => ?_) (fun f cdv A fr s H vs Q E hr h => ?_)
  · obtain ⟨x, dx, v, ps, H0, rfl, _⟩ := h
    rfl
  · obtain ⟨x, dx, v, ps, H0, rfl, e0, x0, hx, hc, hv, q⟩ := h
    refine ⟨_, (pss_cons (ps_set (i := 2) sc_Lot_init.nd rfl (by first | exact Or.inl rfl | exact Or.inr rfl) (pe_ifExp (pt_cmpR op_isN (pv 1) pe_non (nomark _)) pe_dnewK (pv 1)))
    (pss_cons (ps_if (pt_not (pt_val (pcal C__are_counts hr (pa_cons (pv 2) pa_nil)))) (pss_one ps_never) pss_nil)
     (pss_cons (ps_fld (pv 0) (pe_callTy call_tuple_of (by rfl) B.tuple bt_tuple (pa_cons (pe_callB (call_sortedDI rfl) (by rfl) B.sorted bt_sorted (pa_cons (pv 2) pa_nil)) pa_nil)) rfl)
      (pss_cons (ps_fld (pv 0) (pe_callTy call_tupleZ (by rfl) B.tuple bt_tuple (pa_cons (pe_lc (own := [("size", 3)]) (g := (gName 3)) rfl sc_Lot_init.nd (pi_tup (pe_fld (pv 0) rfl)) (blkOk_by (own := [("size", 3)]) (N := n_Lot_init) (sc := defScope s_Lot_init) (by decide +kernel)) (fun _ _ _ _ _ => (pg_name (i := 3) sc_Lot_init.nd rfl (by first | exact Or.inl rfl | exact Or.inr rfl))) (fun _ _ _ _ _ => pts_nil) (fun _ _ _ _ _ => (pe_tup (pa_cons (pv 3) (pa_cons (pe_dget (hu_of hr) (pv 2) (pv 3) (fun _ _ => rfl)) pa_nil))))) pa_nil)) rfl)
       (pss_one (ps_fld (pv 0) (pe_callTy (call_dictZ rfl) (by rfl) B.dict bt_dict (pa_cons (pe_fld (pv 0) rfl) pa_nil)) rfl)))))), ?_⟩
    refine asg_told (ps := ps) rfl (hv.imp id fun ⟨d, h1, h2⟩ => ⟨d, h1, e0 _ _ h2⟩) (fun d H1 e1 hd => ?_)
    refine Evl.q_when (b := false) (Evl.et_is (Evl.et_not (Evl.et_B (ev_call1 (Evl.ev_var rfl) (arec_v hd hc)))) rfl) (fun z => nomatch z) (fun _ H2 e2 => ?_)
    have E2 := e0.trans (e1.trans e2)
    have hx2 := (e1.trans e2) _ _ hx
    have hd2 := e2 _ _ hd
    generalize H2 = H3 at E2 hx2 hd2 ⊢
    clear e2 hd hv hx e1 e0
    have ln := hc.ln
    have xd : d ≠ x := fun z => by rw [z, hx2] at hd2; cases hd2
    refine sq_fld (eu_tupleL (K := K) (el_sortD (Evl.ev_var rfl) (.inl hd2) hc.nd (by omega)) H3 (Evl.Ex.refl H3) _ fun t1 H5 f1 e5 h1' => ?_)
    have E4 := E2.trans e5
    have h1 : SqT K H5 t1 (((srt ps).map Prod.fst).map V.int) := SqT.of h1'
    have hx4 := e5 _ _ hx2
    have hd4 := e5 _ _ hd2
    refine ⟨.ref x, rfl, x, CL, dx, [], rfl, hx4, LT_Lot.k.cl, LT_Lot.n1, by decide, ?_⟩
    have E5 : Evl.Ex H0 (upd H5 x (.ins CL dx (putF "_sizes" (.ref t1) []))) := Evl.Ex.mut E4 x0
    have h15 := sqT_x (u := .ins CL dx (putF "_sizes" (.ref t1) [])) h1 hx4
    have hd5 := up_x (u := .ins CL dx (putF "_sizes" (.ref t1) [])) hd4 xd
    have hx5 : upd H5 x (.ins CL dx (putF "_sizes" (.ref t1) [])) x = some (.ins CL dx (putF "_sizes" (.ref t1) [])) := upd_same
    generalize upd H5 x (.ins CL dx (putF "_sizes" (.ref t1) [])) = H6 at E5 h15 hd5 hx5 ⊢
    clear E4 h1 h1' hx4 hd4 f1 e5
    refine sq_fld (tz_of (K := K) (R := RP K) (fun _ _ _ _ e r => r.ex e) (lc_tupF (K := K) (R := RP K) (c := fun _ => true) (e := fun n => (n, (cnt ps n).getD 0)) (fun _ _ _ _ e r => r.ex e) (fun _ _ _ _ _ _ hl r => r.upd hl) (ev_fldL (v := .ref t1) (Evl.ev_var rfl) hx5 LT_Lot.k.cl LT_Lot.n1 rfl) h15 (by rw [List.length_map, (srt_perm ps).length_eq]; omega) (fun _ => rfl) (fun n _ H7 _ H8 _ Q q => q H8 (Evl.Ex.refl H8)) (fun n hn _ H7 e7 => ?_)) H6 (Evl.Ex.refl H6) _ fun t2 vs H7 f2 e7 hz hf => ?_)
    · obtain ⟨p, hp, rfl⟩ := List.mem_map.mp hn
      have m := (cnt_mem hc.nd).mp (show (p.1, p.2) ∈ ps from (srt_perm ps).mem_iff.mp hp)
      rw [m]
      exact evr_pair (Evl.ev_var rfl) (ev_dget (Evl.ev_var rfl) (Evl.ev_var rfl) (fun H8 e8 => .inl (e8 _ _ (e7 _ _ hd5))) m)
    · rw [List.filter_eq_self.mpr fun _ _ => rfl, pairs_srt hc.nd] at hf
      have E7 := E5.trans e7
      have hx7 := e7 _ _ hx5
      have h17 := Evl.ex_t e7 h15
      refine ⟨.ref x, rfl, x, CL, dx, _, rfl, hx7, LT_Lot.k.cl, LT_Lot.n2, Nat.lt_of_le_of_lt (length_putF "_sizes" (.ref t1) []) (by decide), ?_⟩
      have E8 : Evl.Ex H0 (upd H7 x (.ins CL dx (putF "_pairs" (.ref t2) (putF "_sizes" (.ref t1) [])))) := Evl.Ex.mut E7 x0
      have h18 := sqT_x (u := .ins CL dx (putF "_pairs" (.ref t2) (putF "_sizes" (.ref t1) []))) h17 hx7
      have hz8 := hz.x (u := .ins CL dx (putF "_pairs" (.ref t2) (putF "_sizes" (.ref t1) []))) hx7
      have hf8 := hf.imp fun y b r => RP.x (u := .ins CL dx (putF "_pairs" (.ref t2) (putF "_sizes" (.ref t1) []))) hx7 r
      have hx8 : upd H7 x (.ins CL dx (putF "_pairs" (.ref t2) (putF "_sizes" (.ref t1) []))) x = some (.ins CL dx (putF "_pairs" (.ref t2) (putF "_sizes" (.ref t1) []))) := upd_same
      generalize upd H7 x (.ins CL dx (putF "_pairs" (.ref t2) (putF "_sizes" (.ref t1) []))) = H8 at E8 h18 hz8 hf8 hx8 ⊢
      have lk : (putF "_pairs" (.ref t2) (putF "_sizes" (.ref t1) [])).lookup ("_pairs" : Str) = some (V.ref t2) := by rw [lookup_putF, if_pos rfl]
      have nd := asc_nodup (srt_asc hc.nd)
      refine one_fld (dz_of (K := K) (ev_fldL (Evl.ev_var rfl) hx8 LT_Lot.k.cl LT_Lot.n2 lk) hz8 hf8 nd H8 (Evl.Ex.refl H8) _ fun t3 H9 f3 e9 h9 => ?_)
      have hx9 := e9 _ _ hx8
      have n3 : t3 ≠ x := fun e => by rw [e, hx9] at h9; cases h9
      have le := Nat.le_trans (length_putF "_pairs" (.ref t2) (putF "_sizes" (V.ref t1) [])) (Nat.succ_le_succ (length_putF "_sizes" (.ref t1) []))
      refine ⟨.ref x, rfl, x, CL, dx, _, rfl, hx9, LT_Lot.k.cl, LT_Lot.n3, Nat.lt_of_le_of_lt le (by decide), ?_⟩
      refine q (srt ps) _ (Evl.Ex.mut (E8.trans e9) x0) (srt_perm ps) (srt_asc hc.nd) ⟨dx, t1, t2, t3, vs, upd_same, sqT_x (Evl.ex_t e9 h18) hx9, sqT_x (Evl.ex_t e9 hz8.t) hx9, hf8.imp fun y b r => (r.ex e9).x hx9, .inl (up_x h9 n3)⟩

theorem ok_noa (B : Bl mg) (D : Df K mg "number_of_all" s_number_of_all ["runs"]) : Cl P w K mg base 1 "number_of_all" (spNoa K) := by
  refine cl_of D sc_number_of_all (fun vs H Q E h => ?_) (fun f cdv A fr s H vs Q E hr h => ?_)
  · obtain ⟨t, xs, rs, rfl, _⟩ := h
    rfl
  · obtain ⟨t, xs, rs, rfl, ht, hf, hl, q⟩ := h
    refine ⟨_, (pss_one (ps_ret (pe_callB (cr_sum rfl) (by rfl) B.sum bt_sum (pa_cons (pe_lc (own := [("run", 1)]) (g := (gName 1)) rfl sc_number_of_all.nd (pi_tup (pv 0)) (blkOk_by (own := [("run", 1)]) (N := n_number_of_all) (sc := defScope s_number_of_all) (by decide +kernel)) (fun _ _ _ _ _ => (pg_name (i := 1) sc_number_of_all.nd rfl (by first | exact Or.inl rfl | exact Or.inr rfl))) (fun _ _ _ _ _ => pts_nil) (fun _ _ _ _ _ => (pe_ix (ix_tupK (K := K) rfl) (pv 1) pe_int (fun _ _ => rfl)))) pa_nil)))), ?_⟩
    refine Evl.s_ret (Evl.ev_is (ev_sum (K := K) (ns := rs.map fun r => r.2) (Ck.el_is (el_lcP1 (fun r => .int r.2) (Evl.ev_var rfl) ht hf (by omega) (fun _ => rfl) (fun r hr x H1 e1 hx => ?_)) (by rw [List.map_map]; rfl))) rfl) q
    obtain ⟨t1, rfl, h1⟩ := hx
    exact ev_ixT (Evl.ev_var rfl) Evl.ev_c h1 (atI_nat (j := 1) rfl)
theorem ok_lotnum {CL : Addr} (LT_Lot : LotT K mg CL) (D : Dpr K CL "number" "Lot.number" s_Lot_number) (C_number_of_all : Cl P w K mg base 1 "number_of_all" (spNoa K)) : Pg P w K mg base 2 CL "number" (spLNum K CL) := by
  refine pg_of LT_Lot.k.cl D sc_Lot_number (fun vs H Q E h => ?_) (fun f cdv A fr s H vs Q E hr h => ?_)
  · obtain ⟨a, ps, rfl, _⟩ := h
    rfl
  · obtain ⟨a, ps, rfl, hl, hz, q⟩ := h
    refine ⟨_, (pss_one (ps_ret (pcal C_number_of_all hr (pa_cons (pe_fld (pv 0) rfl) pa_nil)))), ?_⟩
    obtain ⟨dx, t1, t2, d, ts, h1, h2, h3, h4, h5⟩ := hl.ex
    refine ev_fldL (Evl.ev_var rfl) h1 LT_Lot.k.cl LT_Lot.n2 (lot_pairs t1 t2 d) H (Evl.Ex.refl H) _ fun H1 e1 => ⟨t2, ts, ps, rfl, Evl.ex_t e1 h3, h4.imp fun x b r => r.ex e1, hz, fun H2 e2 => q H2 (e1.trans e2)⟩

theorem ok_lotcounts (B : Bl mg) {CL : Addr} (LT_Lot : LotT K mg CL) (D : Dpr K CL "counts" "Lot.counts" s_Lot_counts) : Pg P w K mg base 1 CL "counts" (spCounts K CL) := by
  refine pg_of LT_Lot.k.cl D sc_Lot_counts (fun vs H Q E h => ?_) (fun f cdv A fr s H vs Q E hr h => ?_)
  · obtain ⟨a, ps, rfl, _⟩ := h
    rfl
  · obtain ⟨a, ps, rfl, hl, q⟩ := h
    refine ⟨_, (pss_one (ps_ret (pe_callTy call_dictD (by rfl) B.dict bt_dict (pa_cons (pe_fld (pv 0) rfl) pa_nil)))), ?_⟩
    obtain ⟨dx, t1, t2, d, ts, h1, h2, h3, h4, h5⟩ := hl.ex
    exact ⟨_, rfl, a, CL, dx, _, _, rfl, h1, LT_Lot.k.cl, LT_Lot.n3, lot_counts t1 t2 d, d, ps.map kc, rfl, h5, fun p hp => q p _ (Evl.Ex.new hp) hp upd_same⟩
theorem ok_partof (B : Bl mg) {CL : Addr} (LT_Lot : LotT K mg CL) (D : Dop K CL "is_part_of" "Lot.is_part_of" s_Lot_is_part_of ["self", "value"]) (O_Lot_getitem : Og P w K mg base 4 CL "__getitem__" ["self", "at"] (spItem K CL)) : Og P w K mg base 6 CL "is_part_of" ["self", "value"] (spPartOf K CL) := by
  refine og_of LT_Lot.k.cl D sc_Lot_is_part_of (fun vs H Q E h => ?_) (fun f cdv A fr s H vs Q E hr h => ?_)
  · obtain ⟨a, b, qs, ps, rfl, _⟩ := h
    rfl
  · obtain ⟨a, b, qs, ps, rfl, hl, hb, hc, q⟩ := h
    refine ⟨_, (pss_cons (ps_if (pt_not (pt_val (pe_callB call_isi (by rfl) B.isinstance bt_isinstance (pa_cons (pv 1) (pa_cons (pe_glob (v := V.ref _) (by rfl) LT_Lot.k.g rfl) pa_nil))))) (pss_one (ps_ret pe_bl)) pss_nil)
    (pss_one (ps_ret (pe_callB (cr_all rfl) (by rfl) B.all bt_all (pa_cons (pe_lc (own := [("size", 2), ("count", 3)]) (g := (gTup K 2 (gCons (gName 2) (gCons (gName 3) gNil)))) rfl sc_Lot_is_part_of.nd (pi_tup (pe_fld (pv 0) rfl)) (blkOk_by (own := [("size", 2), ("count", 3)]) (N := n_Lot_is_part_of) (sc := defScope s_Lot_is_part_of) (by decide +kernel)) (fun _ _ _ _ _ => (pg_tup (n := 2) rfl (pgs_cons (pg_name (i := 2) sc_Lot_is_part_of.nd rfl (by first | exact Or.inl rfl | exact Or.inr rfl)) (pgs_cons (pg_name (i := 3) sc_Lot_is_part_of.nd rfl (by first | exact Or.inl rfl | exact Or.inr rfl)) pgs_nil)))) (fun _ _ _ _ _ => pts_nil) (fun _ _ _ _ _ => (pe_cmpR op_le (pv 3) (pgetO O_Lot_getitem hr (pv 1) (pv 2)) (nomark _)))) pa_nil))))), ?_⟩
    obtain ⟨bx, u1, u2, bd, bs, b1, _⟩ := hb.ex
    refine Evl.q_when (b := false) (Evl.et_is (Evl.et_not (Evl.et_B (ev_isi (Evl.ev_var rfl) Evl.ev_c (.own CL) (fun H1 e => LT_Lot.k.ty (e _ _ b1)) kit_self))) rfl) (fun z => nomatch z) (fun _ H1 e1 => ?_)
    obtain ⟨dx, t1, t2, d, ts, h1, h2, h3, h4, h5⟩ := (hl.up e1).ex
    have ln := hc.ln
    refine Evl.s_ret (Evl.ev_is (ev_all (K := K) (bs := qs.map fun p => decide (p.2 ≤ (cnt ps p.1).getD 0)) (Ck.el_is (el_lcP (fun p => .bl (decide (p.2 ≤ (cnt ps p.1).getD 0))) (ev_fldL (Evl.ev_var rfl) h1 LT_Lot.k.cl LT_Lot.n2 (lot_pairs t1 t2 d)) h3 h4 (by omega) (fun _ _ => rfl) (fun p hp H2 e2 => ?_)) (by rw [List.map_map]; rfl))) ?_) (fun H2 e2 => q H2 (e1.trans e2))
    · exact ev_i0 (g := fun i j => .bl (decide (i ≤ j))) (Evl.ev_var rfl) (ev_item (Evl.ev_var rfl) (Evl.ev_var rfl) ((hb.up e1).up e2) (hc.ok p hp).1)
    · rw [List.all_map]
      rfl
theorem et_lst {te : TE} {σ : L2.St} {H : Hp} {l : Addr} {xs : List V} (h : Evl.Ev te σ H (.ref l)) (hl : H l = some (.lst xs)) : Evl.EvT (fun σ H Q => te σ H fun x H' => ∃ k, TruV K x H' k ∧ Q k H') σ H (!xs.isEmpty) := fun H1 e _ q => h H1 e _ fun H2 e2 => ⟨_, .inl ⟨xs, SqL.of ((e.trans e2) _ _ hl), rfl⟩, q H2 e2⟩
theorem ok_isrun (B : Bl mg) (D : Df K mg "is_run" s_is_run ["value"]) (C_is_size : Cl P w K mg base 2 "is_size" (spNum K sizB)) : Cl P w K mg base 3 "is_run" (spIsRun K) := by
  refine cl_of D sc_is_run (fun vs H Q E h => ?_) (fun f cdv A fr s H vs Q E hr h => ?_)
  · obtain ⟨t, a, b, rfl, _⟩ := h
    rfl
  · obtain ⟨t, a, b, rfl, ht, q⟩ := h
    refine ⟨_, (pss_one (ps_ret (pe_and (pe_callB call_isi (by rfl) B.isinstance bt_isinstance (pa_cons (pv 0) (pa_cons (pe_bltn (v := V.ty "tuple") (by rfl) B.tuple bt_tuple rfl) pa_nil))) (pe_and (pe_cmpR op_eq (pe_callB call_len_seq (by rfl) B.len bt_len (pa_cons (pv 0) pa_nil)) pe_int (nomark _)) (pe_and (pcal C_is_size hr (pa_cons (pe_ix ix_tup (pv 0) pe_int (fun _ _ => rfl)) pa_nil)) (pe_one (pcal C_is_size hr (pa_cons (pe_ix ix_tup (pv 0) pe_int (fun _ _ => rfl)) pa_nil)))))))), ?_⟩
    exact Evl.s_ret (Evl.ev_is (Evl.ev_andV (a := true) (ev_isi (Evl.ev_var rfl) Evl.ev_c (.ty _) (fun H1 e => ty_tup (Evl.ex_t e ht)) (kit_ty (r := true) (by decide +kernel))) (fun _ => Evl.ev_andV (a := true) (Evl.ev_is (ev_eq (ev_lenT (Evl.ev_var rfl) ht) Evl.ev_c rfl) rfl) (fun _ => Evl.ev_andV (ev_call1 (ev_ixT (Evl.ev_var rfl) Evl.ev_c ht (atI_0 _ _)) num_i) (fun _ => ev_call1 (ev_ixT (Evl.ev_var rfl) Evl.ev_c ht (atI_nat (j := 1) rfl)) num_i)))) rfl) q
theorem isrun_v {H : Hp} {x : V} {a b : Int} (h : RP K H x (a, b)) : Evl.SpV (spIsRun K) [x] H (.bl (sizB a && sizB b)) := fun H1 e Q q E => by
  obtain ⟨t, rfl, ht⟩ := h
  exact ⟨t, a, b, rfl, Evl.ex_t e ht, q⟩
theorem ok_unitsof (B : Bl mg) (D : Df K mg "units_of" s_units_of ["runs", "size"]) : Cl P w K mg base 1 "units_of" (spUnitsOf K) := by
  refine cl_of D sc_units_of (fun vs H Q E h => ?_) (fun f cdv A fr s H vs Q E hr h => ?_)
  · obtain ⟨t, s, xs, rs, rfl, _⟩ := h
    rfl
  · obtain ⟨t, sz, xs, rs, rfl, ht, hf, hl, hp, s0, s1, q⟩ := h
    refine ⟨_, (pss_one (ps_ret (pe_callB (cr_sum rfl) (by rfl) B.sum bt_sum (pa_cons (pe_lc (own := [("run", 2)]) (g := (gName 2)) rfl sc_units_of.nd (pi_tup (pv 0)) (blkOk_by (own := [("run", 2)]) (N := n_units_of) (sc := defScope s_units_of) (by decide +kernel)) (fun _ _ _ _ _ => (pg_name (i := 2) sc_units_of.nd rfl (by first | exact Or.inl rfl | exact Or.inr rfl))) (fun _ _ _ _ _ => pts_nil) (fun _ _ _ _ _ => (pe_op op_mulW (pe_ix (ix_tupK (K := K) rfl) (pv 2) pe_int (fun _ _ => rfl)) (pe_op op_fdivW (pe_ix (ix_tupK (K := K) rfl) (pv 2) pe_int (fun _ _ => rfl)) (pv 1))))) pa_nil)))), ?_⟩
    refine Evl.s_ret (Evl.ev_is (ev_sum (K := K) (ns := rs.map fun r => r.2 * (r.1 / sz)) (Ck.el_is (el_lcP1 (fun r => .int (r.2 * (r.1 / sz))) (Evl.ev_var rfl) ht hf (by omega) (fun _ => rfl) (fun r hr x H1 e1 hx => ?_)) (by rw [List.map_map]; rfl))) rfl) q
    obtain ⟨t1, rfl, h1⟩ := hx
    obtain ⟨p0, p1, p2⟩ := hp r hr
    exact ev_i (g := fun i j => .int (i * j)) (ev_ixT (Evl.ev_var rfl) Evl.ev_c h1 (atI_nat (j := 1) rfl)) (ev_i (g := fun i j => .int (i / j)) (ev_ixT (Evl.ev_var rfl) Evl.ev_c h1 (atI_0 _ _)) (Evl.ev_var rfl) (divW s0 s1)) (mul200 p2 (Nat.lt_of_le_of_lt (by
      have e : (r.1 / sz).natAbs = r.1.natAbs / sz.natAbs := by
        obtain ⟨n, hn⟩ := Int.eq_ofNat_of_zero_le p0
        obtain ⟨m, hm⟩ := Int.eq_ofNat_of_zero_le (show 0 ≤ sz by omega)
        rw [hn, hm]
        rfl
      rw [e]
      exact Nat.div_le_self _ _) p1))
theorem ok_joinr (B : Bl mg) (D : Df K mg "joined_runs" s_joined_runs ["runs"]) : Cl P w K mg base 1 "joined_runs" (spJoinR K) := by
  refine cl_of D sc_joined_runs (fun vs H Q E h => ?_) (fun f cdv A fr s H vs Q E hr h => ?_)
  · obtain ⟨t, xs, rs, rfl, _⟩ := h
    rfl
  · obtain ⟨t, xs, rs, rfl, ht, hf, hl, q⟩ := h
    refine ⟨_, (pss_cons (ps_set (i := 1) sc_joined_runs.nd rfl (by first | exact Or.inl rfl | exact Or.inr rfl) (pe_lst pa_nil))
    (pss_cons (ps_for PassesOwn.never rfl (pi_tup (pv 0)) (pg_name (i := 2) sc_joined_runs.nd rfl (by first | exact Or.inl rfl | exact Or.inr rfl)) (pss_one (ps_if (pw_and (pt_truth (pv 1) (fun _ => rfl)) (pw_and (pt_cmpR op_eq (pe_ix ix_tup (pe_ix ix_list (pv 1) (pe_un un_neg pe_int) (fun _ _ => rfl)) pe_int (fun _ _ => rfl)) (pe_ix ix_tup (pv 2) pe_int (fun _ _ => rfl)) (nomark _)) (pw_and1 (pt_cmpR (op_eqD hr.units) (pe_slice sl_tupA (pe_ix ix_list (pv 1) (pe_un un_neg pe_int) (fun _ _ => rfl)) (po_some pe_int) po_none) (pe_slice sl_tupA (pv 2) (po_some pe_int) po_none) (nomark _))))).pt (pss_one (ps_asg (pe_op op_catA (pe_tup (pa_cons (pe_ix ix_tup (pv 2) pe_int (fun _ _ => rfl)) (pa_cons (pe_op op_add (pe_ix ix_tup (pe_ix ix_list (pv 1) (pe_un un_neg pe_int) (fun _ _ => rfl)) pe_int (fun _ _ => rfl)) (pe_ix ix_tup (pv 2) pe_int (fun _ _ => rfl))) pa_nil))) (pe_slice sl_tupA (pv 2) (po_some pe_int) po_none)) (pg_sub (pv 1) (pe_un un_neg pe_int) set_list))) (pss_one (ps_expr (pe_bm PySem.F.plainAttrs_list PySem.F.slot_list_append PySem.F.type_list_append mt_append (pv 1) (pa_cons (pv 2) pa_nil)))))))
     (pss_one (ps_ret (pe_callTy call_tuple_of (by rfl) B.tuple bt_tuple (pa_cons (pv 1) pa_nil)))))), ?_⟩
    refine ⟨(show 0 ≤ sizeLine by decide), fun l nl => ?_⟩
    have E1 : Evl.Ex H (upd H l (.lst [])) := Evl.Ex.new nl
    have h1 : upd H l (.lst []) l = some (.lst []) := upd_same
    generalize upd H l (.lst []) = H1 at E1 h1 ⊢
    refine ⟨.ref t, rfl, t, rfl, ⟨_, Evl.ex_t E1 ht⟩, ?_⟩
    refine for_it walk_tup (fun i σ H' => Evl.Ex H H' ∧ SqT K H' t xs ∧ ∃ (vs : List V) (t2 : Option V), σ = [some (.ref t), some (.ref l), t2] ∧ H' l = some (.lst vs) ∧ F2 (RP K H') vs (jr (rs.take i))) ⟨E1, Evl.ex_t E1 ht, [], none, rfl, h1, .nil⟩ (fun i σ H' _ h => h.2.1) ?_ ?_
    · rintro i x σ H3' H3 hi ⟨e3, ht3, vs, t2, rfl, hl3, hf3⟩ ⟨rfl, hxi⟩
      obtain ⟨r, hri, hx⟩ := F2.at (hf.imp fun x b r => r.ex e3) hxi
      obtain ⟨hi2, rfl⟩ := List.getElem?_eq_some_iff.mp hri
      have tk : jr (rs.take (i + 1)) = jn1 (jr (rs.take i)) rs[i] := by rw [List.take_add_one, List.getElem?_eq_getElem hi2]; exact jr_snoc _ _
      have ll : vs.length ≤ 2000 := by rw [hf3.len]; refine Nat.le_trans (jr_len _) ?_; rw [List.length_take]; omega
      obtain ⟨u, rfl, hu⟩ := hx
      have fin : ∀ (H5 : Hp) (vs' : List V), Evl.Ex H H5 → H5 l = some (.lst vs') → F2 (RP K H5) vs' (jr (rs.take (i + 1))) → SqT K H5 t xs → Evl.Ex H H5 ∧ SqT K H5 t xs ∧ ∃ (vs : List V) (t2 : Option V), [some (.ref t), some (.ref l), some (.ref u)] = [some (.ref t), some (.ref l), t2] ∧ H5 l = some (.lst vs) ∧ F2 (RP K H5) vs (jr (rs.take (i + 1))) := fun H5 vs' a b c d => ⟨a, d, vs', _, rfl, b, c⟩
      rcases nil_or_snoc (jr (rs.take i)) with en | ⟨as, z, en⟩
      · rw [en] at hf3
        obtain rfl : vs = [] := List.eq_nil_of_length_eq_zero hf3.len
        refine Evl.s_if (b := false) (Evl.et_is (Evl.et_and (b := true) (et_lst (K := K) (Evl.ev_var rfl) hl3) (fun z => nomatch z)) rfl) (fun z => nomatch z) (fun _ H4 e4 => ?_)
        refine Evl.s_app (e4 _ _ hl3) (Evl.ev_var rfl) (Evl.ev_var rfl) (by show 0 < _; omega) (fun H5 e5 => ?_)
        have hl5 := (e4.trans e5) _ _ hl3
        refine fin _ _ (Evl.Ex.mut (e3.trans (e4.trans e5)) nl) upd_same ?_ (sqT_updL (Evl.ex_t (e4.trans e5) ht3) hl5)
        rw [tk, en]
        exact .cons (RP.upd hl5 ⟨u, rfl, Evl.ex_t (e4.trans e5) hu⟩) .nil
      · have jn : jn1 (jr (rs.take i)) rs[i] = if z.1 = rs[i].1 then as ++ [(rs[i].1, z.2 + rs[i].2)] else as ++ [z] ++ [rs[i]] := by
          rw [en]
          unfold jn1
          rw [List.getLast?_concat, List.dropLast_concat]
        rw [en] at hf3
        obtain ⟨ys, y, rfl, fy, ⟨v, rfl, hv⟩⟩ := f2_snoc hf3
        have hlast : ∀ H4, Evl.Ex H3 H4 → Evl.Ev (tOp (rIxL K) (tVar 1) (tUn (rU fun i => V.int (-i)) (tC (V.int 1)))) [some (.ref t), some (.ref l), some (.ref u)] H4 (.ref v) := fun H4 e4 => ev_ixL (Evl.ev_var rfl) (ev_neg Evl.ev_c) (SqL.of (e4 _ _ hl3)) (atI_last _ _)
        have hvs : ∀ H4, Evl.Ex H3 H4 → SqT K H4 v [.int z.1, .int z.2] := fun H4 e4 => Evl.ex_t e4 hv
        have hus : ∀ H4, Evl.Ex H3 H4 → SqT K H4 u [.int rs[i].1, .int rs[i].2] := fun H4 e4 => Evl.ex_t e4 hu
        have c2 : ∀ a b : Int, cutV [V.int a, V.int b] (some 2) none = [] := fun a b => rfl
        have sl : ∀ H4, Evl.Ex H3 H4 → Etu K (tSl (rSlA K) (tVar 2) (tPart (tC (V.int 2))) tNoPart) [some (.ref t), some (.ref l), some (.ref u)] H4 [] := fun H4 e4 => etu_is (etu_sl (etu_ev (Evl.ev_var rfl) (hus H4 e4)) (Evl.eo_some Evl.ev_c) Evl.eo_none) (c2 _ _)
        refine Evl.s_if (b := decide (z.1 = rs[i].1)) (Evl.et_is (Evl.et_and (et_lst (K := K) (Evl.ev_var rfl) hl3) (fun _ => Evl.et_and (Evl.et_test (ev_eq (ev_ixT (hlast _ (Evl.Ex.refl _)) Evl.ev_c (hvs _ (Evl.Ex.refl _)) (atI_0 _ _)) (ev_ixT (Evl.ev_var rfl) Evl.ev_c (hus _ (Evl.Ex.refl _)) (atI_0 _ _)) rfl))
          (fun _ => Evl.et_test (ev_eqD (K := K) (ed_etu (ns := []) (etu_is (etu_sl (etu_ev (hlast _ (Evl.Ex.refl _)) (hvs _ (Evl.Ex.refl _))) (Evl.eo_some Evl.ev_c) Evl.eo_none) (c2 _ _))) (ed_etu (ns := []) (sl _ (Evl.Ex.refl _))) (by decide +kernel) (by decide +kernel))))) ?_) (fun hb H4 e4 => ?_) (fun hb H4 e4 => ?_)
        · rw [show (!(ys ++ [V.ref v]).isEmpty) = true by cases ys <;> rfl, Bool.true_and, show PyData.eqv (.tuple (([] : List Int).map PyData.int)) (.tuple (([] : List Int).map PyData.int)) = true by decide +kernel, Bool.and_true]
          exact decide_eq_decide.mpr ⟨V.int.inj, congrArg V.int⟩
        · have ez := of_decide_eq_true hb
          refine etu_cat (K := K) (etu_of (Evl.eu_tup (vs := [.int rs[i].1, .int (z.2 + rs[i].2)]) (Evl.ea_cons (ev_ixT (Evl.ev_var rfl) Evl.ev_c (hus _ e4) (atI_0 _ _)) (Evl.ea_cons (ev_i0 (g := fun i j => V.int (i + j)) (ev_ixT (hlast _ e4) Evl.ev_c (hvs _ e4) (atI_nat (j := 1) rfl)) (ev_ixT (Evl.ev_var rfl) Evl.ev_c (hus _ e4) (atI_nat (j := 1) rfl))) Evl.ea_nil)) (show 2 ≤ 100000 by decide))) (sl _ e4) (show 2 ≤ 100000 by decide) H4 (Evl.Ex.refl _) _ fun p H5 e5 hp => ?_
          have hl5 := (e4.trans e5) _ _ hl3
          refine ⟨.ref l, rfl, 1, rfl, l, _, -1, ys.length, rfl, rfl, hl5, ?_, ?_⟩
          · rw [List.length_append]
            exact ixN_last ys.length
          · refine fin _ _ (Evl.Ex.mut (e3.trans (e4.trans e5)) nl) upd_same ?_ (sqT_updL (Evl.ex_t (e4.trans e5) ht3) hl5)
            rw [tk, jn, if_pos ez, List.set_append_right _ _ (Nat.le_refl _), Nat.sub_self]
            exact (F2.app (fy.imp fun x b r => RP.upd hl5 (r.ex (e4.trans e5))) (.cons (RP.upd hl5 ⟨p, rfl, hp⟩) .nil))
        · refine Evl.s_app (e4 _ _ hl3) (Evl.ev_var rfl) (Evl.ev_var rfl) (by omega) (fun H5 e5 => ?_)
          have hl5 := (e4.trans e5) _ _ hl3
          refine fin _ _ (Evl.Ex.mut (e3.trans (e4.trans e5)) nl) upd_same ?_ (sqT_updL (Evl.ex_t (e4.trans e5) ht3) hl5)
          rw [tk, jn, if_neg (of_decide_eq_false hb)]
          exact ((fy.app (.cons ⟨v, rfl, hv⟩ .nil)).app (.cons ⟨u, rfl, hu⟩ .nil)).imp fun x b r => RP.upd hl5 (r.ex (e4.trans e5))
    · rintro _ H3 ⟨e3, ht3, vs, t2, rfl, hl3, hf3⟩
      rw [List.take_of_length_le (by rw [← hf.len]; exact Nat.le_refl _)] at hf3
      exact ⟨.ref l, rfl, l, vs, rfl, .inl ⟨SqL.of hl3, fun b nb => q b vs _ (e3.trans (Evl.Ex.new nb)) (SqT.of upd_same) (hf3.imp fun x r h => h.ex (Evl.Ex.new nb))⟩⟩
theorem ok_chksto (B : Bl mg) {CS : Addr} (LT_Store : StoreT K mg CS) (D : Df K mg "check_store" s_check_store ["value"]) : Cg P w K mg base CX0 1 "check_store" (spIsSto K CS) := by
  refine cg_of D sc_check_store (fun vs H Q E h => ?_) (fun f cdv A fr s H vs Q E hr hgd h => ?_)
  · obtain ⟨a, ps, rfl, _⟩ := h
    rfl
  · obtain ⟨a, ps, rfl, hl, q⟩ := h
    refine ⟨_, (pss_one (ps_if (pt_not (pt_val (pe_callB call_isi (by rfl) B.isinstance bt_isinstance (pa_cons (pv 0) (pa_cons (pe_glob (v := V.ref _) (by rfl) LT_Store.k.g rfl) pa_nil))))) (pss_one ps_never) pss_nil)), ?_⟩
    obtain ⟨dx, t1, ts, h1, _⟩ := hl.ex
    exact Evl.s_when (b := false) (Evl.et_is (Evl.et_not (Evl.et_B (ev_isi (Evl.ev_var rfl) Evl.ev_c (.own CS) (fun H1 e => LT_Store.k.ty (e _ _ h1)) kit_self))) rfl) (fun z => nomatch z) (fun _ H1 e1 => q H1 e1)
theorem ok_stoinit (B : Bl mg) (T : Cs mg) {CS : Addr} (LT_Store : StoreT K mg CS) (D : Dis K mg "Store" CS "Store.__init__" s_Store_init "runs") (C_is_run : Cl P w K mg base 3 "is_run" (spIsRun K)) (C_joined_runs : Cl P w K mg base 1 "joined_runs" (spJoinR K)) : Mkc P w K mg base 4 "Store" CS (spStoI K CS) := by
  refine sto_mk (mks_of D sc_Store_init (fun f cdv A fr s H vs Q E hr h => ?_))
  obtain ⟨x, dx, p, xs, rs, H0, rfl, e0, x0, hx, hp, hf, hrn, q⟩ := h
  refine ⟨_, (pss_cons (ps_for PassesOwn.never rfl (pi_tup (pv 1)) (pg_name (i := 2) sc_Store_init.nd rfl (by first | exact Or.inl rfl | exact Or.inr rfl)) (pss_one (ps_if (pt_not (pt_val (pcal C_is_run hr (pa_cons (pv 2) pa_nil)))) (pss_one ps_never) pss_nil)))
    (pss_cons (ps_set (i := 3) sc_Store_init.nd rfl (by first | exact Or.inl rfl | exact Or.inr rfl) (pcal C_joined_runs hr (pa_cons (pv 1) pa_nil)))
     (pss_cons (ps_if (pt_cmpR op_gt (pe_callB call_len_seq (by rfl) B.len bt_len (pa_cons (pv 3) pa_nil)) (pe_gc2 (by rfl) T.c_MAX_RUNS) (nomark _)) (pss_one ps_never) pss_nil)
      (pss_one (ps_fld (pv 0) (pv 3) rfl))))), ?_⟩
  have hln := hrn.ln
  refine ⟨.ref p, rfl, p, rfl, ⟨_, hp⟩, ?_⟩
  refine for_it walk_tup (fun i σ H' => Evl.Ex H H' ∧ SqT K H' p xs ∧ ∃ (t2 : Option V), σ = [some (.ref x), some (.ref p), t2, none]) ⟨Evl.Ex.refl _, hp, none, rfl⟩ (fun i σ H' _ h => h.2.1) ?_ ?_
  · rintro i y σ H3' H3 hi ⟨e3, ht3, t2, rfl⟩ ⟨rfl, hxi⟩
    obtain ⟨r, hri, hy⟩ := F2.at (hf.imp fun x b r => r.ex (e0.trans e3)) hxi
    obtain ⟨s1, s2⟩ := hrn.ok r (List.mem_of_getElem? hri)
    exact Evl.s_when (b := false) (Evl.et_is (Evl.et_not (Evl.et_B (ev_call1 (Evl.ev_var rfl) (isrun_v hy)))) (by rw [s1, s2]; rfl)) (fun z => nomatch z) (fun _ H4 e4 => ⟨e3.trans e4, Evl.ex_t e4 ht3, _, rfl⟩)
  · rintro _ H3 ⟨e3, ht3, t2, rfl⟩
    dsimp only
    refine q_asgP (P := fun v H' => ∃ u ys, v = .ref u ∧ Evl.Ex H H' ∧ SqT K H' u ys ∧ F2 (RP K H') ys (jr rs)) (fun Q2 q2 => ⟨.ref p, rfl, p, xs, rs, rfl, ht3, hf.imp fun x b r => r.ex (e0.trans e3), by omega, fun u ys H4 e4 hu hy => q2 _ _ ⟨u, ys, rfl, e3.trans e4, hu, hy⟩⟩) ?_
    rintro _ H4 ⟨u, ys, rfl, e4, hu, hy⟩
    refine Evl.q_when (b := false) (Evl.et_is (Evl.et_test (ev_i0 (ev_lenT (Evl.ev_var rfl) hu) (Evl.ev_c (v := .int 40)))) ?_) (fun z => nomatch z) (fun _ H5 e5 => ?_)
    · rw [hy.len]
      have := hrn.jl
      exact decide_eq_false (by omega)
    have E5 := e0.trans (e4.trans e5)
    have hx5 := (e4.trans e5) _ _ hx
    refine ⟨.ref u, rfl, .ref x, rfl, x, CS, dx, [], rfl, hx5, LT_Store.k.cl, LT_Store.n1, by decide, ?_⟩
    exact q _ (Evl.Ex.mut E5 x0) ⟨dx, u, ys, upd_same, sqT_x (Evl.ex_t e5 hu) hx5, hy.imp fun y b r => RP.x hx5 (r.ex e5)⟩
theorem ok_stounits {CS : Addr} (LT_Store : StoreT K mg CS) (D : Dop K CS "units" "Store.units" s_Store_units ["self", "size"]) (C_check_size : Cl P w K mg base 3 "check_size" (spChkN sizB)) (C_units_of : Cl P w K mg base 1 "units_of" (spUnitsOf K)) : Og P w K mg base 4 CS "units" ["self", "size"] (spUnits K CS) := by
  refine og_of LT_Store.k.cl D sc_Store_units (fun vs H Q E h => ?_) (fun f cdv A fr s H vs Q E hr h => ?_)
  · obtain ⟨a, z, ps, rfl, _⟩ := h
    rfl
  · obtain ⟨a, z, rs, rfl, hl, ho, hz, q⟩ := h
    refine ⟨_, (pss_cons (ps_expr (pcal C_check_size hr (pa_cons (pv 1) pa_nil)))
    (pss_one (ps_ret (pcal C_units_of hr (pa_cons (pe_fld (pv 0) rfl) (pa_cons (pv 1) pa_nil)))))), ?_⟩
    refine Evl.q_drop (ev_call1 (Evl.ev_var rfl) (chkn_v hz)) (fun H1 e1 => ?_)
    obtain ⟨dx, t, ts, h1, h2, h3⟩ := (hl.up e1).ex
    obtain ⟨z0, z1⟩ := siz_int hz
    have ln := ho.ln
    refine ⟨.ref a, rfl, a, CS, dx, _, _, rfl, h1, LT_Store.k.cl, LT_Store.n1, sto_runs t, .int z, rfl, t, z, ts, rs, rfl, h2, h3, by omega, fun r hr => ?_, z0, z1, fun H2 e2 => q H2 (e1.trans e2)⟩
    obtain ⟨s1, s2, s3⟩ := ho.ok r hr
    obtain ⟨s4, s5⟩ := siz_int s1
    exact ⟨by omega, s5, s3⟩
theorem ok_togN (B : Bl mg) (D : Df K mg "check_together" s_check_together ["sizes"]) (C_first_gap : Cg P w K mg base CX0 1 "first_gap" (spGapB K)) : Cg P w K mg base CX0 2 "check_together" (spTogN K) := by
  refine cg_of D sc_check_together (fun vs H Q E h => ?_) (fun f cdv A fr s H vs Q E hr hgd h => ?_)
  · obtain ⟨p, ns, rfl, _⟩ := h
    rfl
  · obtain ⟨p, ns, rfl, hp, hl, hpos, hg, q⟩ := h
    refine ⟨_, (pss_cons (ps_set (i := 1) sc_check_together.nd rfl (by first | exact Or.inl rfl | exact Or.inr rfl) (pcg C_first_gap hr hgd (pa_cons (pe_callB (cr_sortedSet rfl) (by rfl) B.sorted bt_sorted (pa_cons (pe_callTy (cr_setT rfl) (by rfl) B.set bt_set (pa_cons (pv 0) pa_nil)) pa_nil)) pa_nil)))
    (pss_one (ps_if (pt_cmpR op_notN (pv 1) pe_non (nomark _)) (pss_one ps_never) pss_nil))), ?_⟩
    refine el_tss (K := K) (us := uni ns) (etu_ev (Evl.ev_var rfl) hp) hl uni_pw (fun k => uni_mem) H (Evl.Ex.refl H) _ (fun l H1 _ e1 h1 => ⟨l, uni ns, rfl, .inl (SqL.of h1), fun n hn => hpos n (uni_mem.mp hn), fun v H2 e2 hd => ?_⟩)
    rw [hg] at hd
    rw [dp_non hd]
    exact Evl.s_when (b := false) (Evl.et_test (Evl.ev_is (ev_notN (Evl.ev_var rfl)) rfl)) (fun z => nomatch z) (fun _ H3 e3 => q H3 (e1.trans (e2.trans e3)))
theorem ok_lotunits (B : Bl mg) {CL : Addr} (LT_Lot : LotT K mg CL) (D : Dop K CL "units" "Lot.units" s_Lot_units ["self", "size"]) (C_check_size : Cl P w K mg base 3 "check_size" (spChkN sizB)) (C_units_of : Cl P w K mg base 1 "units_of" (spUnitsOf K)) : Og P w K mg base 4 CL "units" ["self", "size"] (spLotU K CL) := by
  refine og_of LT_Lot.k.cl D sc_Lot_units (fun vs H Q E h => ?_) (fun f cdv A fr s H vs Q E hr h => ?_)
  · obtain ⟨a, z, ps, rfl, _⟩ := h
    rfl
  · obtain ⟨a, z, ps, rfl, hl, hc, hz, hdv, q⟩ := h
    refine ⟨_, (pss_cons (ps_expr (pcal C_check_size hr (pa_cons (pv 1) pa_nil)))
    (pss_cons (ps_if (pt_val (pe_callB (cr_any rfl) (by rfl) B.any bt_any (pa_cons (pe_lc (own := [("each", 2)]) (g := (gName 2)) rfl sc_Lot_units.nd (pi_tup (pe_fld (pv 0) rfl)) (blkOk_by (own := [("each", 2)]) (N := n_Lot_units) (sc := defScope s_Lot_units) (by decide +kernel)) (fun _ _ _ _ _ => (pg_name (i := 2) sc_Lot_units.nd rfl (by first | exact Or.inl rfl | exact Or.inr rfl))) (fun _ _ _ _ _ => pts_nil) (fun _ _ _ _ _ => (pe_and (pe_cmpR op_gt (pv 2) (pv 1) (nomark _)) (pe_one (pe_cmpR op_ne (pe_op op_mod (pv 2) (pv 1)) pe_int (nomark _)))))) pa_nil))) (pss_one ps_never) pss_nil)
     (pss_one (ps_ret (pcal C_units_of hr (pa_cons (pe_fld (pv 0) rfl) (pa_cons (pv 1) pa_nil))))))), ?_⟩
    obtain ⟨z0, z1⟩ := siz_int hz
    have ln := hc.ln
    refine Evl.q_drop (ev_call1 (Evl.ev_var rfl) (chkn_v hz)) (fun H1 e1 => ?_)
    obtain ⟨dx, t1, t2, d, ts, h1, h2, h3, h4, h5⟩ := (hl.up e1).ex
    refine Evl.q_when (b := false) (Evl.et_is (Evl.et_B (ev_any (K := K) (bs := (ps.map Prod.fst).map fun n => decide (z < n) && !decide (n % z = 0)) (Ck.el_is (el_lcY (K := K) (fun n => .bl (decide (z < n) && !decide (n % z = 0))) (etu_ev (ev_fldL (Evl.ev_var rfl) h1 LT_Lot.k.cl LT_Lot.n1 (lot_sizes t1 t2 d)) h2) (by rw [List.length_map]; omega) (fun _ => rfl) (fun n hn H2 e2 => Evl.ev_is (Evl.ev_andV (ev_i0 (Evl.ev_var rfl) (Evl.ev_var rfl)) (fun _ => ev_ne (ev_i (g := fun i j => .int (i % j)) (Evl.ev_var rfl) (Evl.ev_var rfl) z0) Evl.ev_c rfl)) ?_)) (by rw [List.map_map, List.map_map, List.map_map]; rfl)))) ?_) (fun z => nomatch z) (fun _ H2 e2 => ?_)
    · exact congrArg V.bl (congrArg (decide (z < n) && ·) (congrArg (!·) (decide_eq_decide.mpr ⟨V.int.inj, congrArg V.int⟩)))
    · have e : ((ps.map Prod.fst).map fun n => decide (z < n) && !decide (n % z = 0)).any id = false := by
        rw [List.any_map, List.any_eq_false]
        intro n hn
        obtain ⟨r, hr, rfl⟩ := List.mem_map.mp hn
        show ¬ (decide (z < r.1) && !decide (r.1 % z = 0)) = true
        by_cases c : z < r.1
        · rw [decide_eq_true (Int.emod_eq_zero_of_dvd (hdv r hr c)), Bool.not_true, Bool.and_false]
          exact Bool.false_ne_true
        · rw [decide_eq_false c, Bool.false_and]
          exact Bool.false_ne_true
      exact e
    · have hl2 := hl.up (e1.trans e2)
      obtain ⟨dx, t1, t2, d, ts, h1, h2, h3, h4, h5⟩ := hl2.ex
      exact ⟨.ref a, rfl, a, CL, dx, _, _, rfl, h1, LT_Lot.k.cl, LT_Lot.n2, lot_pairs t1 t2 d, .int z, rfl, t2, z, ts, ps, rfl, h3, h4, by omega, fun r hr => ⟨Int.le_of_lt (siz_int (hc.ok r hr).1).1, (siz_int (hc.ok r hr).1).2, (siz_int (hc.ok r hr).2).2⟩, z0, z1, fun H3 e3 => q H3 (e1.trans (e2.trans e3))⟩
theorem ok_chkL {CL CS : Addr} (B : Bl mg) (D : Dfa K mg "check_levels" "_check" s_check_levels ["lot", "store"]) (C_check_lot : Cl P w K mg base 1 "check_lot" (spIsLot K CL)) (C_check_store : Cg P w K mg base CX0 1 "check_store" (spIsSto K CS)) (C_check_together : Cg P w K mg base CX0 2 "check_together" (spTogN K)) (P_sizes : Pg P w K mg base 1 CL "sizes" (spSizes K CL)) : Cg P w K mg base CX0 3 "check_levels" (spChkL K CL CS) := by
  refine cg_ofA D sc_check_levels (fun vs H Q E h => ?_) (fun f cdv A fr s H vs Q E hr hgd h => ?_)
  · obtain ⟨a, b, ps, rs, rfl, _⟩ := h
    rfl
  · obtain ⟨a, b, ps, rs, rfl, hl, hc, hs, q⟩ := h
    refine ⟨_, (pss_cons (ps_expr (pcg (Cl.g C_check_lot) hr hgd (pa_cons (pv 0) pa_nil)))
    (pss_cons (ps_expr (pcg C_check_store hr hgd (pa_cons (pv 1) pa_nil)))
     (pss_one (ps_expr (pcg C_check_together hr hgd (pa_cons (pprop P_sizes hr (pv 0)) pa_nil)))))), ?_⟩
    refine Evl.q_drop (ev_call1 (Evl.ev_var rfl) (chklot_v hl)) (fun H1 e1 => Evl.q_drop (ev_call1 (Evl.ev_var rfl) (fun H2 e2 Q q E => ⟨b, rs, rfl, hs.up (e1.trans e2), q⟩)) (fun H2 e2 => ?_))
    refine etu_sizes (Evl.ev_var rfl) (hl.up (e1.trans e2)) H2 (Evl.Ex.refl H2) _ (fun t H3 e3 ht => ⟨t, _, rfl, ht, ?_, fun n hn => (cts_pos hc.ct n hn).1, hc.uni, fun H4 e4 => q H4 (e1.trans (e2.trans (e3.trans e4)))⟩)
    rw [List.length_map]
    have := hc.ct.ln
    omega
theorem ok_chkM {CL CS : Addr} (B : Bl mg) (D : Dfa K mg "check_most" "_check" s_check_most ["lot", "store"]) (C_check_lot : Cl P w K mg base 1 "check_lot" (spIsLot K CL)) (C_check_store : Cg P w K mg base CX0 1 "check_store" (spIsSto K CS)) (C_check_together : Cg P w K mg base CX0 2 "check_together" (spTogN K)) (P_sizes : Pg P w K mg base 1 CL "sizes" (spSizes K CL)) : Cg P w K mg base CX0 3 "check_most" (spChkL K CL CS) := by
  refine cg_ofA D sc_check_most (fun vs H Q E h => ?_) (fun f cdv A fr s H vs Q E hr hgd h => ?_)
  · obtain ⟨a, b, ps, rs, rfl, _⟩ := h
    rfl
  · obtain ⟨a, b, ps, rs, rfl, hl, hc, hs, q⟩ := h
    refine ⟨_, (pss_cons (ps_expr (pcg (Cl.g C_check_lot) hr hgd (pa_cons (pv 0) pa_nil)))
    (pss_cons (ps_expr (pcg C_check_store hr hgd (pa_cons (pv 1) pa_nil)))
     (pss_one (ps_expr (pcg C_check_together hr hgd (pa_cons (pprop P_sizes hr (pv 0)) pa_nil)))))), ?_⟩
    refine Evl.q_drop (ev_call1 (Evl.ev_var rfl) (chklot_v hl)) (fun H1 e1 => Evl.q_drop (ev_call1 (Evl.ev_var rfl) (fun H2 e2 Q q E => ⟨b, rs, rfl, hs.up (e1.trans e2), q⟩)) (fun H2 e2 => ?_))
    refine etu_sizes (Evl.ev_var rfl) (hl.up (e1.trans e2)) H2 (Evl.Ex.refl H2) _ (fun t H3 e3 ht => ⟨t, _, rfl, ht, ?_, fun n hn => (cts_pos hc.ct n hn).1, hc.uni, fun H4 e4 => q H4 (e1.trans (e2.trans (e3.trans e4)))⟩)
    rw [List.length_map]
    have := hc.ct.ln
    omega
theorem ok_levels {CL CS : Addr} (B : Bl mg) (D : Df K mg "levels_of" s_levels_of ["lot", "store"]) (C_check_levels : Cg P w K mg base CX0 3 "check_levels" (spChkL K CL CS)) (P_sizes : Pg P w K mg base 1 CL "sizes" (spSizes K CL)) (O_Lot_units : Og P w K mg base 4 CL "units" ["self", "size"] (spLotU K CL)) (O_Store_units : Og P w K mg base 4 CS "units" ["self", "size"] (spUnits K CS)) : Cg P w K mg base CX0 5 "levels_of" (spLvs K CL CS) := by
  refine cg_of D sc_levels_of (fun vs H Q E h => ?_) (fun f cdv A fr s H vs Q E hr hgd h => ?_)
  · obtain ⟨a, b, ps, rs, rfl, _⟩ := h
    rfl
  · obtain ⟨a, b, ps, rs, rfl, hl, hc, hs, ho, q⟩ := h
    refine ⟨_, (pss_cons (ps_expr (pcg C_check_levels hr hgd (pa_cons (pv 0) (pa_cons (pv 1) pa_nil))))
    (pss_one (ps_ret (pe_callTy call_tuple_of (by rfl) B.tuple bt_tuple (pa_cons (pe_lc (own := [("size", 2)]) (g := (gName 2)) rfl sc_levels_of.nd (pi_tup (pprop P_sizes hr (pv 0))) (blkOk_by (own := [("size", 2)]) (N := n_levels_of) (sc := defScope s_levels_of) (by decide +kernel)) (fun _ _ _ _ _ => (pg_name (i := 2) sc_levels_of.nd rfl (by first | exact Or.inl rfl | exact Or.inr rfl))) (fun _ _ _ _ _ => pts_nil) (fun _ _ _ _ _ => (pe_tup (pa_cons (pv 2) (pa_cons (pmeth O_Lot_units hr (pv 0) (pa_cons (pv 2) pa_nil)) (pa_cons (pmeth O_Store_units hr (pv 1) (pa_cons (pv 2) pa_nil)) pa_nil)))))) pa_nil))))), ?_⟩
    have ln := hc.ct.ln
    refine Evl.q_drop (Evl.ev_call (vs := [.ref a, .ref b]) (Evl.ea_cons (Evl.ev_var rfl) (Evl.ea_cons (Evl.ev_var rfl) Evl.ea_nil)) (fun H1 e1 Q q E => ⟨a, b, ps, rs, rfl, hl.up e1, hc, hs.up e1, q⟩)) (fun H1 e1 => ?_)
    have hl1 := hl.up e1
    have hs1 := hs.up e1
    refine st_retTF (K := K) (R := RT3 K) (as := lvs ps rs) (fun _ _ _ _ e r => r.ex e) (fun Q2 q2 => lc_tupE (K := K) (R := RT3 K) (e := fun s => (s, unt ps s, unt rs s)) (fun _ _ _ _ e r => r.ex e) (fun _ _ _ _ _ _ hl r => r.upd hl) (etu_sizes (Evl.ev_var (i := 0) rfl) hl1) (by rw [List.length_map]; omega) (fun _ => rfl) (fun n hn H2 e2 => ?_) H1 (Evl.Ex.refl H1) Q2 q2) (fun l vs H2 e2 hl2 hf => q l vs H2 (e1.trans e2) hl2 hf)
    obtain ⟨n0, n1, _⟩ := cts_pos hc.ct n hn
    exact evr_t3 (Evl.ev_var (i := 2) rfl) (ev_lotU (Evl.ev_var (i := 0) rfl) (Evl.ev_var (i := 2) rfl) (hl1.up e2) hc.ct (siz_of n0 n1) (hc.dv n hn)) (ev_units (Evl.ev_var (i := 1) rfl) (Evl.ev_var (i := 2) rfl) (hs1.up e2) ho (siz_of n0 n1))
theorem ok_barring {CL CS : Addr} (B : Bl mg) (D : Df K mg "barring_sizes" s_barring_sizes ["lot", "store"]) (C_levels_of : Cg P w K mg base CX0 5 "levels_of" (spLvs K CL CS)) : Cg P w K mg base CX0 6 "barring_sizes" (spBrs K CL CS) := by
  refine cg_of D sc_barring_sizes (fun vs H Q E h => ?_) (fun f cdv A fr s H vs Q E hr hgd h => ?_)
  · obtain ⟨a, b, ps, rs, rfl, _⟩ := h
    rfl
  · obtain ⟨a, b, ps, rs, rfl, hl, hc, hs, ho, q⟩ := h
    refine ⟨_, (pss_one (ps_ret (pe_callTy call_tuple_of (by rfl) B.tuple bt_tuple (pa_cons (pe_lc (own := [("size", 2), ("needed", 3), ("given", 4)]) (g := (gTup K 3 (gCons (gName 2) (gCons (gName 3) (gCons (gName 4) gNil))))) rfl sc_barring_sizes.nd (pi_tup (pcg C_levels_of hr hgd (pa_cons (pv 0) (pa_cons (pv 1) pa_nil)))) (blkOk_by (own := [("size", 2), ("needed", 3), ("given", 4)]) (N := n_barring_sizes) (sc := defScope s_barring_sizes) (by decide +kernel)) (fun _ _ _ _ _ => (pg_tup (n := 3) rfl (pgs_cons (pg_name (i := 2) sc_barring_sizes.nd rfl (by first | exact Or.inl rfl | exact Or.inr rfl)) (pgs_cons (pg_name (i := 3) sc_barring_sizes.nd rfl (by first | exact Or.inl rfl | exact Or.inr rfl)) (pgs_cons (pg_name (i := 4) sc_barring_sizes.nd rfl (by first | exact Or.inl rfl | exact Or.inr rfl)) pgs_nil))))) (fun _ _ _ _ _ => (pts_one (pt_cmpR op_gt (pv 3) (pv 4) (nomark _)))) (fun _ _ _ _ _ => (pv 2))) pa_nil)))), ?_⟩
    have ln := hc.ct.ln
    refine eu_tupleL (K := K) (Ck.el_is (el_lcT3 (K := K) (qs := lvs ps rs) (fun q => decide (q.2.1 > q.2.2)) (fun q => .int q.1) (fun H1 e1 Q q => ?_) (by unfold lvs; rw [List.length_map, List.length_map]; omega) (fun _ _ _ => rfl) (fun q _ H1 _ => Evl.et_test (ev_i0 (Evl.ev_var rfl) (Evl.ev_var rfl))) (fun q _ H1 _ => Evl.ev_var rfl)) (ys := (brs ps rs).map V.int) (by rw [← brs_lvs, List.map_map]; rfl)) H (Evl.Ex.refl H) _ fun t H1 n1 e1 ht => q t H1 e1 (SqT.of ht)
    exact ⟨.ref a, rfl, .ref b, rfl, a, b, ps, rs, rfl, hl.up e1, hc, hs.up e1, ho, fun t ts H2 e2 ht hf => q t ts H2 e2 ht hf⟩
theorem ok_fits {CL CS : Addr} (B : Bl mg) (D : Df K mg "fits" s_fits ["lot", "store"]) (C_barring_sizes : Cg P w K mg base CX0 6 "barring_sizes" (spBrs K CL CS)) : Cg P w K mg base CX0 7 "fits" (spFits K CL CS) := by
  refine cg_of D sc_fits (fun vs H Q E h => ?_) (fun f cdv A fr s H vs Q E hr hgd h => ?_)
  · obtain ⟨a, b, ps, rs, rfl, _⟩ := h
    rfl
  · obtain ⟨a, b, ps, rs, rfl, hl, hc, hs, ho, q⟩ := h
    refine ⟨_, (pss_one (ps_ret (pe_cmpR (op_eqD hr.units) (pcg C_barring_sizes hr hgd (pa_cons (pv 0) (pa_cons (pv 1) pa_nil))) (pe_tup pa_nil) (nomark _)))), ?_⟩
    refine Evl.s_ret (Evl.ev_is (ev_eqD (K := K) (ed_etu (ns := brs ps rs) (fun H1 e1 Q q => ?_)) (e := .tuple []) (ed_tup ed_nil) (shaped_tints _) (by decide +kernel)) (by rw [eqv_tnil, fit_brs])) q
    exact ⟨.ref a, rfl, .ref b, rfl, a, b, ps, rs, rfl, hl.up e1, hc, hs.up e1, ho, fun t H2 e2 ht => q t H2 e2 ht⟩

theorem ok_chknL (B : Bl mg) (D : Df K mg "check_count" s_check_count ["value"]) (C_is_count : Cl P w K mg base 2 "is_count" (spNum K cntB)) : Cl P w K mg base 3 "check_count" (spChkN cntB) := by
  refine cl_of D sc_check_count (fun vs H Q E h => ?_) (fun f cdv A fr s H vs Q E hr h => ?_)
  · obtain ⟨a, rfl, _⟩ := h
    rfl
  · obtain ⟨a, rfl, ha, q⟩ := h
    refine ⟨_, (pss_one (ps_if (pt_not (pt_val (pcal C_is_count hr (pa_cons (pv 0) pa_nil)))) (pss_one ps_never) pss_nil)), ?_⟩
    exact Evl.s_when (b := false) (Evl.et_is (Evl.et_not (Evl.et_B (ev_call1 (Evl.ev_var rfl) num_i))) (by rw [ha]; rfl)) (fun z => nomatch z) (fun _ H1 e1 => q H1 e1)
def withP (ps : List (Int × Int)) (z n : Int) : List (Int × Int) := (ps.filter fun p => !decide (p.1 = z)) ++ (if 0 < n then [(z, n)] else [])
def spLotWith (K : PySem.W.Frag) (C : Addr) : Sp := fun vs H Q _ => ∃ a ps z n, vs = [.ref a, .int z, .int n] ∧ LotAt K C H a ps ∧ Cts ps ∧ sizB z = true ∧ cntB n = true ∧ Cts (withP ps z n) ∧ ∀ c ts H', Evl.Ex H H' → ts.Perm (withP ps z n) → Asc ts → LotAt K C H' c ts → Q (.ref c) H'
theorem ok_lotwith (B : Bl mg) (T : Cs mg) {CL : Addr} (LT_Lot : LotT K mg CL) (D : Dop K CL "with_count" "Lot.with_count" s_Lot_with_count ["self", "size", "number"]) (C_check_size : Cl P w K mg base 3 "check_size" (spChkN sizB)) (C_check_count : Cl P w K mg base 3 "check_count" (spChkN cntB)) (M_Lot : Mkc P w K mg base 4 "Lot" CL (spLotI K CL)) : Og P w K mg base 6 CL "with_count" ["self", "size", "number"] (spLotWith K CL) := by
  refine og_of LT_Lot.k.cl D sc_Lot_with_count (fun vs H Q E h => ?_) (fun f cdv A fr s H vs Q E hr h => ?_)
  · obtain ⟨a, ps, z, n, rfl, _⟩ := h
    rfl
  · obtain ⟨a, ps, z, n, rfl, hl, hcp, hz, hn, hc, q⟩ := h
    refine ⟨_, (pss_cons (ps_expr (pcal C_check_size hr (pa_cons (pv 1) pa_nil)))
    (pss_cons (ps_expr (pcal C_check_count hr (pa_cons (pv 2) pa_nil)))
     (pss_cons (ps_setDc (i := 3) (own := [("each", 4), ("count", 5)]) (g := (gTup K 2 (gCons (gName 4) (gCons (gName 5) gNil)))) rfl sc_Lot_with_count.nd rfl rfl (sw_trueD rfl rfl rfl (by decide +kernel)) (pi_tup (pe_fld (pv 0) rfl)) (blkOk_by (own := [("each", 4), ("count", 5)]) (N := n_Lot_with_count) (sc := defScope s_Lot_with_count) (by decide +kernel)) (fun _ _ _ _ _ => (pg_tup (n := 2) rfl (pgs_cons (pg_name (i := 4) sc_Lot_with_count.nd rfl (by first | exact Or.inl rfl | exact Or.inr rfl)) (pgs_cons (pg_name (i := 5) sc_Lot_with_count.nd rfl (by first | exact Or.inl rfl | exact Or.inr rfl)) pgs_nil)))) (fun _ _ _ _ _ => (pts_one (pt_cmpR op_ne (pv 4) (pv 1) (nomark _)))) (fun _ _ _ _ _ => (pv 4)) (fun _ _ _ _ _ => (pv 5)))
      (pss_cons (ps_if (pt_cmpR op_gt (pv 2) pe_int (nomark _)) (pss_one (ps_dput (hu_of hr) (pv 3) (pv 1) (pv 2) rfl)) pss_nil)
       (pss_cons (ps_if (pt_cmpR op_gt (pe_callB call_lenD (by rfl) B.len bt_len (pa_cons (pv 3) pa_nil)) (pe_gc2 (by rfl) T.c_MAX_SIZES) (nomark _)) (pss_one ps_never) pss_nil)
        (pss_one (ps_ret (pmk M_Lot hr (pa_cons (pv 3) pa_nil))))))))), ?_⟩
    have ln := hcp.ln
    refine Evl.q_drop (ev_call1 (Evl.ev_var rfl) (chkn_v hz)) (fun H1 e1 => ?_)
    refine Evl.q_drop (ev_call1 (Evl.ev_var rfl) (chkn_v hn)) (fun H2 e2 => ?_)
    obtain ⟨dx, t1, t2, d, ts, h1, h2, h3, h4, h5⟩ := (hl.up (e1.trans e2)).ex
    have fnd : ((ps.filter fun p => !decide (p.1 = z)).map Prod.fst).Nodup := (List.filter_sublist.map Prod.fst).nodup hcp.nd
    have fln : (ps.filter fun p => !decide (p.1 = z)).length ≤ ps.length := List.length_filter_le _ _
    refine q_asgP (P := fun v H' => ∃ d, v = .ref d ∧ H2 d = none ∧ Evl.Ex H2 H' ∧ H' d = some (.dK ((ps.filter fun p => !decide (p.1 = z)).map kc))) (fun Q2 q2 => (dc_tupP (K := K) (fun p => !decide (p.1 = z)) id (ev_fldL (Evl.ev_var rfl) h1 LT_Lot.k.cl LT_Lot.n2 (lot_pairs t1 t2 d)) h3 h4 (by omega) (fun _ _ => rfl) (fun p _ H3 _ => Evl.et_is (Evl.et_test (ev_ne (Evl.ev_var rfl) (Evl.ev_var rfl) rfl)) (congrArg _ (decide_eq_decide.mpr ⟨V.int.inj, congrArg V.int⟩))) (fun p hp _ H5 _ => Evl.ev_var rfl) (fun p hp _ H5 _ => Evl.ev_var rfl)).is (qs := ps.filter fun p => !decide (p.1 = z)) (by rw [List.map_id]; exact merP_self fnd) H2 (Evl.Ex.refl H2) _ fun x H5 n5 e5 hx => q2 _ H5 ⟨x, rfl, n5, e5, hx⟩) ?_
    rintro _ H3 ⟨u, rfl, nu, e3, hu⟩
    have znk : z ∉ (ps.filter fun p => !decide (p.1 = z)).map Prod.fst := fun m => by
      obtain ⟨x, hx, e⟩ := List.mem_map.mp m
      have := (List.mem_filter.mp hx).2
      rw [e, decide_eq_true rfl] at this
      cases this
    have E3 := e1.trans (e2.trans e3)
    have nu0 : H u = none := Evl.fresh_back (e1.trans e2) nu
    refine Evl.q_when (b := decide (0 < n)) (Evl.et_test (ev_i0 (g := fun i j => .bl (decide (j < i))) (Evl.ev_var rfl) Evl.ev_c)) (fun c H4 e4 => ?_) (fun c H4 e4 => ?_)
    · refine ⟨.int n, rfl, .ref u, rfl, .int z, rfl, u, _, rfl, DPut.k (k := Sum.inl z) (e4 _ _ hu) (by rw [List.length_map, sizeLine_eq]; omega), ?_⟩
      · have hd : upd H4 u (.dK (putK ((ps.filter fun p => !decide (p.1 = z)).map kc) (Sum.inl z) (.int n))) u = some (.dK ((withP ps z n).map kc)) := by
          unfold withP
          rw [upd_same, putK_new znk, if_pos (of_decide_eq_true c)]
        have EE : Evl.Ex H (upd H4 u (.dK (putK ((ps.filter fun p => !decide (p.1 = z)).map kc) (Sum.inl z) (.int n)))) := Evl.Ex.mut (E3.trans e4) nu0
        generalize upd H4 u (.dK (putK ((ps.filter fun p => !decide (p.1 = z)).map kc) (Sum.inl z) (.int n))) = H5 at hd EE ⊢
        have hln := hc.ln
        refine Evl.q_when (b := false) (Evl.et_is (Evl.et_test (ev_i0 (g := fun i j => .bl (decide (j < i))) (ev_lenD (Evl.ev_var rfl) hd) (Evl.ev_c (v := .int 12)))) (decide_eq_false (by rw [List.length_map]; omega))) (fun z => nomatch z) (fun _ H6 e6 => ?_)
        exact lot_make (K := K) (ps := withP ps z n) (fun Q2 q2 => ⟨_, rfl, q2 u H6 (Evl.Ex.refl H6) (e6 _ _ hd)⟩) hc _ fun c ts' H7 e7 hp' ha' hl' => q c ts' H7 (EE.trans (e6.trans e7)) hp' ha' hl'
    · · have hd : H4 u = some (.dK ((withP ps z n).map kc)) := by
          unfold withP
          rw [if_neg (of_decide_eq_false c), List.append_nil]
          exact e4 _ _ hu
        have EE : Evl.Ex H H4 := E3.trans e4
        have hln := hc.ln
        refine Evl.q_when (b := false) (Evl.et_is (Evl.et_test (ev_i0 (g := fun i j => .bl (decide (j < i))) (ev_lenD (Evl.ev_var rfl) hd) (Evl.ev_c (v := .int 12)))) (decide_eq_false (by rw [List.length_map]; omega))) (fun z => nomatch z) (fun _ H6 e6 => ?_)
        exact lot_make (K := K) (ps := withP ps z n) (fun Q2 q2 => ⟨_, rfl, q2 u H6 (Evl.Ex.refl H6) (e6 _ _ hd)⟩) hc _ fun c ts' H7 e7 hp' ha' hl' => q c ts' H7 (EE.trans (e6.trans e7)) hp' ha' hl'

theorem ok_btw (B : Bl mg) (D : Df K mg "check_between" s_check_between ["value", "low", "high"]) (C_is_integer : Cl P w K mg base 1 "is_integer" (spNum K intB)) : Cl P w K mg base 2 "check_between" spBtw := by
  refine cl_of D sc_check_between (fun vs H Q E h => ?_) (fun f cdv A fr s H vs Q E hr h => ?_)
  · obtain ⟨v, lo, hi, rfl, _⟩ := h
    rfl
  · obtain ⟨v, lo, hi, rfl, hv, h1, h2, q⟩ := h
    refine ⟨_, (pss_one (ps_if (pw_or (pt_not (pt_val (pcal C_is_integer hr (pa_cons (pv 0) pa_nil)))) (pw_or1 (pt_not (pt_chain op_le op_le (pv 1) (pv 0) (pv 2))))).pt (pss_one ps_never) pss_nil)), ?_⟩
    refine Evl.s_when (b := false) (Evl.et_is (Evl.et_or (Evl.et_not (Evl.et_B (ev_call1 (Evl.ev_var rfl) (num_i (K := K) (p := intB) (i := v)))) ) (fun _ => Evl.et_not (Evl.et_test (ev_chain (Evl.ev_var rfl) (Evl.ev_var rfl) (Evl.ev_var rfl))))) ?_) (fun z => nomatch z) (fun _ H1 e1 => q H1 e1)
    unfold intB
    rw [decide_eq_true hv, decide_eq_true h1, decide_eq_true h2]
    rfl
theorem ok_loteq {CL : Addr} (B : Bl mg) (LT_Lot : LotT K mg CL) (D : Dop K CL "__eq__" "Lot.__eq__" s_Lot_eq ["self", "other"]) : Og P w K mg base 1 CL "__eq__" ["self", "other"] (spLotEq K CL) := by
  refine og_of LT_Lot.k.cl D sc_Lot_eq (fun vs H Q E h => ?_) (fun f cdv A fr s H vs Q E hr h => ?_)
  · obtain ⟨a, b, ps, qs, rfl, _⟩ := h
    rfl
  · obtain ⟨a, b, ps, qs, rfl, ha, hb, q⟩ := h
    refine ⟨_, (pss_one (ps_ret (pe_and (pe_callB call_isi (by rfl) B.isinstance bt_isinstance (pa_cons (pv 1) (pa_cons (pe_glob (v := V.ref _) (by rfl) LT_Lot.k.g rfl) pa_nil))) (pe_one (pe_cmpR (op_eqDk hr.units0) (pe_fld (pv 0) rfl) (pe_fld (pv 1) rfl) (nomark _)))))), ?_⟩
    obtain ⟨dx, t1, t2, d, ts, h1, h2, h3, h4, h5⟩ := ha.ex
    obtain ⟨bx, u1, u2, bd, bs, b1, b2, b3, b4, b5⟩ := hb.ex
    refine Evl.s_ret (Evl.ev_is (Evl.ev_andV (a := true) (b := eqP ps qs) (ev_isi (Evl.ev_var rfl) Evl.ev_c (.own CL) (fun H1 e => LT_Lot.k.ty (e _ _ b1)) kit_self) (fun _ H1 e1 Q1 q1 => ?_)) rfl) q
    exact ev_fldL (Evl.ev_var rfl) h1 LT_Lot.k.cl LT_Lot.n3 (lot_counts t1 t2 d) H1 e1 _ (fun H2 e2 => ev_fldL (Evl.ev_var rfl) b1 LT_Lot.k.cl LT_Lot.n3 (lot_counts u1 u2 bd) H2 (e1.trans e2) _ (fun H3 e3 => ⟨d, bd, ps, qs, rfl, rfl, h5.up (e1.trans (e2.trans e3)), b5.up (e1.trans (e2.trans e3)), q1 H3 (e2.trans e3)⟩))

theorem ok_lotadd (B : Bl mg) (T : Cs mg) {CL : Addr} (LT_Lot : LotT K mg CL) (D : Dop K CL "__add__" "Lot.__add__" s_Lot_add ["self", "other"]) (M_Lot : Mkc P w K mg base 4 "Lot" CL (spLotI K CL)) : Og P w K mg base 6 CL "__add__" ["self", "other"] (spLotAdd K CL) := by
  refine og_of LT_Lot.k.cl D sc_Lot_add (fun vs H Q E h => ?_) (fun f cdv A fr s H vs Q E hr h => ?_)
  · obtain ⟨a, b, ps, qs, rfl, _⟩ := h
    rfl
  · obtain ⟨a, b, ps, qs, rfl, hl, hm, lp, lq, hc, q⟩ := h
    refine ⟨_, (pss_cons (ps_if (pt_not (pt_val (pe_callB call_isi (by rfl) B.isinstance bt_isinstance (pa_cons (pv 1) (pa_cons (pe_glob (v := V.ref _) (by rfl) LT_Lot.k.g rfl) pa_nil))))) (pss_one ps_never) pss_nil)
    (pss_cons (ps_set (i := 2) sc_Lot_add.nd rfl (by first | exact Or.inl rfl | exact Or.inr rfl) (pe_op op_catA (pe_fld (pv 0) rfl) (pe_fld (pv 1) rfl)))
     (pss_cons (ps_setDc (i := 3) (own := [("size", 4)]) (g := (gName 4)) rfl sc_Lot_add.nd rfl rfl (sw_trueD rfl rfl rfl (by decide +kernel)) (pi_tup (pv 2)) (blkOk_by (own := [("size", 4)]) (N := n_Lot_add) (sc := defScope s_Lot_add) (by decide +kernel)) (fun _ _ _ _ _ => (pg_name (i := 4) sc_Lot_add.nd rfl (by first | exact Or.inl rfl | exact Or.inr rfl))) (fun _ _ _ _ _ => pts_nil) (fun _ _ _ _ _ => (pv 4)) (fun _ _ _ _ _ => (pe_op op_add (pe_dget2 (hu_of hr) (pe_fldK (K := K) rfl (pv 0) rfl) (pv 4) pe_int ⟨rfl, rfl, rfl, rfl⟩) (pe_dget2 (hu_of hr) (pe_fldK (K := K) rfl (pv 1) rfl) (pv 4) pe_int ⟨rfl, rfl, rfl, rfl⟩))))
      (pss_cons (ps_if (pt_cmpR op_gt (pe_callB call_lenD (by rfl) B.len bt_len (pa_cons (pv 3) pa_nil)) (pe_gc2 (by rfl) T.c_MAX_SIZES) (nomark _)) (pss_one ps_never) pss_nil)
       (pss_one (ps_ret (pmk M_Lot hr (pa_cons (pv 3) pa_nil)))))))), ?_⟩
    obtain ⟨dy, u1, u2, bd, us, g1, _⟩ := hm.ex
    refine Evl.q_when (b := false) (Evl.et_is (Evl.et_not (Evl.et_B (ev_isi (Evl.ev_var rfl) Evl.ev_c (.own CL) (fun H1 e => LT_Lot.k.ty (e _ _ g1)) kit_self))) rfl) (fun z => nomatch z) (fun _ H1 e1 => ?_)
    obtain ⟨dx, t1, t2, ad, ts, h1, h2, h3, h4, h5⟩ := (hl.up e1).ex
    obtain ⟨dy, u1, u2, bd, us, g1, g2, g3, g4, g5⟩ := (hm.up e1).ex
    refine q_asgP (P := fun v H' => ∃ p, v = .ref p ∧ Evl.Ex H1 H' ∧ SqT K H' p ((ps.map Prod.fst ++ qs.map Prod.fst).map V.int)) (fun Q2 q2 => etu_cat (K := K) (etu_ev (ev_fldL (Evl.ev_var rfl) h1 LT_Lot.k.cl LT_Lot.n1 (lot_sizes t1 t2 ad)) h2) (etu_ev (ev_fldL (Evl.ev_var rfl) g1 LT_Lot.k.cl LT_Lot.n1 (lot_sizes u1 u2 bd)) g2) (by rw [List.length_map, List.length_map, List.length_map, List.length_map]; omega) H1 (Evl.Ex.refl H1) _ fun p H2 e2 hp => q2 _ _ ⟨p, rfl, e2, by rw [List.map_append]; exact hp⟩) ?_
    rintro _ H2 ⟨p, rfl, e2, hp⟩
    have h12 := e2 _ _ h1
    have g12 := e2 _ _ g1
    have h52 := h5.up e2
    have g52 := g5.up e2
    refine q_asgP (P := fun v H' => ∃ d, v = .ref d ∧ Evl.Ex H2 H' ∧ H' d = some (.dK ((sumP ps qs).map kc))) (fun Q2 q2 => (dc_tupN (K := K) (ns := ps.map Prod.fst ++ qs.map Prod.fst) (fun _ => true) (fun n => (n, sumC ps qs n)) (etu_ev (Evl.ev_var rfl) hp) (by rw [List.length_append, List.length_map, List.length_map]; omega) (fun _ => rfl) (fun n _ H3 _ H4 _ Q q => q H4 (Evl.Ex.refl H4)) (fun n _ _ H3 _ => Evl.ev_var rfl) (fun n _ _ H3 e3 => ?_)).is (qs := sumP ps qs) (by rw [List.filter_eq_self.mpr fun _ _ => rfl]; rfl) H2 (Evl.Ex.refl H2) _ fun d H3 _ e3 hd => q2 _ _ ⟨d, rfl, e3, hd⟩) ?_
    · exact ev_i0 (g := fun i j => .int (i + j)) (ev_dget2 (c := 0) (ev_fldL (Evl.ev_var rfl) (e3 _ _ h12) LT_Lot.k.cl LT_Lot.n3 (lot_counts t1 t2 ad)) (Evl.ev_var rfl) Evl.ev_c (h52.up e3)) (ev_dget2 (c := 0) (ev_fldL (Evl.ev_var rfl) (e3 _ _ g12) LT_Lot.k.cl LT_Lot.n3 (lot_counts u1 u2 bd)) (Evl.ev_var rfl) Evl.ev_c (g52.up e3))
    rintro _ H3 ⟨d, rfl, e3, hd⟩
    have hln := hc.ln
    refine Evl.q_when (b := false) (Evl.et_is (Evl.et_test (ev_i0 (ev_lenD (Evl.ev_var rfl) hd) (Evl.ev_c (v := .int 12)))) (decide_eq_false (by rw [List.length_map]; omega))) (fun z => nomatch z) (fun _ H4 e4 => ?_)
    exact lot_make (K := K) (ps := sumP ps qs) (fun Q2 q2 => ⟨_, rfl, q2 d H4 (Evl.Ex.refl H4) (e4 _ _ hd)⟩) hc _ fun c ts' H5 e5 hp' ha' hl' => q c ts' H5 ((e1.trans e2).trans (e3.trans (e4.trans e5))) hp' ha' hl'

theorem numR_app (as bs : List (Int × Int)) : numR (as ++ bs) = numR as + numR bs := by
  unfold numR
  rw [List.map_append, List.sum_append]
theorem prt_app (f l : Int) : ∀ (as : List (Int × Int)) (s : Int) (r : Int × Int), prt s f l (as ++ [r]) = prt s f l as ++ (if mny (s + numR as) r.2 f l > 0 then [(r.1, mny (s + numR as) r.2 f l)] else [])
  | [], s, r => by
    rw [show numR [] = 0 from rfl, Int.add_zero]
    show (if mny s r.2 f l > 0 then [(r.1, mny s r.2 f l)] else []) ++ [] = _
    rw [List.append_nil]
    rfl
  | x :: as, s, r => by
    show (if mny s x.2 f l > 0 then [(x.1, mny s x.2 f l)] else []) ++ prt (s + x.2) f l (as ++ [r]) = (_ ++ prt (s + x.2) f l as) ++ _
    rw [prt_app f l as (s + x.2) r, numR_cons, ← Int.add_assoc, List.append_assoc]
theorem prt_len (s f l : Int) (rs : List (Int × Int)) : (prt s f l rs).length ≤ rs.length := by
  have := (prt_sub f l rs s).length_le
  rwa [List.length_map, List.length_map] at this
def spPrt (K : PySem.W.Frag) : Sp := fun vs H Q _ => ∃ (t : Addr) (xs : List V) (rs : List (Int × Int)) (f l : Int), vs = [.ref t, .int f, .int l] ∧ SqT K H t xs ∧ F2 (RP K H) xs rs ∧ rs.length ≤ 2000 ∧ ∀ p ys H', Evl.Ex H H' → TupZ H' p ys → F2 (RP K H') ys (prt 0 f l rs) → Q (.ref p) H'
theorem ok_prt (B : Bl mg) (D : Df K mg "part_of_runs" s_part_of_runs ["runs", "first", "last"]) : Cl P w K mg base 1 "part_of_runs" (spPrt K) := by
  refine cl_of D sc_part_of_runs (fun vs H Q E h => ?_) (fun f cdv A fr s H vs Q E hr h => ?_)
  · obtain ⟨t, xs, rs, a, b, rfl, _⟩ := h
    rfl
  · obtain ⟨t, xs, rs, a, b, rfl, ht, hf, hln, q⟩ := h
    refine ⟨_, (pss_cons (ps_set (i := 3) sc_part_of_runs.nd rfl (by first | exact Or.inl rfl | exact Or.inr rfl) (pe_lst pa_nil))
    (pss_cons (ps_set (i := 4) sc_part_of_runs.nd rfl (by first | exact Or.inl rfl | exact Or.inr rfl) pe_int)
     (pss_cons (ps_for PassesOwn.never rfl (pi_tup (pv 0)) (pg_name (i := 5) sc_part_of_runs.nd rfl (by first | exact Or.inl rfl | exact Or.inr rfl)) (pss_cons (ps_set (i := 6) sc_part_of_runs.nd rfl (by first | exact Or.inl rfl | exact Or.inr rfl) (pe_op op_add (pv 4) (pe_ix ix_tup (pv 5) pe_int (fun _ _ => rfl))))
    (pss_cons (ps_set (i := 7) sc_part_of_runs.nd rfl (by first | exact Or.inl rfl | exact Or.inr rfl) (pe_op op_sub (pe_callB (call_min2 rfl) (by rfl) B.min bt_min (pa_cons (pv 6) (pa_cons (pv 2) pa_nil))) (pe_callB (call_max2 rfl) (by rfl) B.max bt_max (pa_cons (pv 4) (pa_cons (pv 1) pa_nil)))))
     (pss_cons (ps_if (pt_cmpR op_gt (pv 7) pe_int (nomark _)) (pss_one (ps_expr (pe_bm PySem.F.plainAttrs_list PySem.F.slot_list_append PySem.F.type_list_append mt_append (pv 3) (pa_cons (pe_op op_catA (pe_tup (pa_cons (pe_ix ix_tup (pv 5) pe_int (fun _ _ => rfl)) (pa_cons (pv 7) pa_nil))) (pe_slice sl_tupA (pv 5) (po_some pe_int) po_none)) pa_nil)))) pss_nil)
      (pss_one (ps_set (i := 4) sc_part_of_runs.nd rfl (by first | exact Or.inl rfl | exact Or.inr rfl) (pv 6)))))))
      (pss_one (ps_ret (pe_callTy call_tupleZ (by rfl) B.tuple bt_tuple (pa_cons (pv 3) pa_nil))))))), ?_⟩
    refine ⟨(show 0 ≤ sizeLine by decide), fun l nl => ?_⟩
    have E1 : Evl.Ex H (upd H l (.lst [])) := Evl.Ex.new nl
    have h1 : upd H l (.lst []) l = some (.lst []) := upd_same
    generalize upd H l (.lst []) = H1 at E1 h1 ⊢
    refine Evl.q_asg Evl.ev_c (fun H2 e2 => ?_)
    refine ⟨.ref t, rfl, t, rfl, ⟨_, Evl.ex_t (E1.trans e2) ht⟩, ?_⟩
    refine for_it walk_tup (fun i σ H' => Evl.Ex H H' ∧ SqT K H' t xs ∧ ∃ (vs : List V) (t5 t6 t7 : Option V), σ = [some (.ref t), some (.int a), some (.int b), some (.ref l), some (.int (numR (rs.take i))), t5, t6, t7] ∧ H' l = some (.lst vs) ∧ F2 (RP K H') vs (prt 0 a b (rs.take i))) ⟨E1.trans e2, Evl.ex_t (E1.trans e2) ht, [], none, none, none, rfl, e2 _ _ h1, .nil⟩ (fun i σ H' _ h => h.2.1) ?_ ?_
    · rintro i x σ H3' H3 hi ⟨e3, ht3, vs, t5, t6, t7, rfl, hl3, hf3⟩ ⟨rfl, hxi⟩
      obtain ⟨r, hri, hx⟩ := F2.at (hf.imp fun x b r => r.ex e3) hxi
      obtain ⟨hi2, rfl⟩ := List.getElem?_eq_some_iff.mp hri
      obtain ⟨u, rfl, hu⟩ := hx
      have tk : rs.take (i + 1) = rs.take i ++ [rs[i]] := by rw [List.take_add_one, List.getElem?_eq_getElem hi2]; rfl
      have ll : vs.length ≤ 2000 := by rw [hf3.len]; refine Nat.le_trans (prt_len _ _ _ _) ?_; rw [List.length_take]; omega
      have ap := prt_app a b (rs.take i) 0 rs[i]
      rw [Int.zero_add, ← tk] at ap
      have nx : numR (rs.take (i + 1)) = numR (rs.take i) + rs[i].2 := by
        rw [tk, numR_app, numR_cons, show numR [] = 0 from rfl, Int.add_zero]
      have c2 : cutV [V.int rs[i].1, V.int rs[i].2] (some 2) none = [] := rfl
      refine Evl.q_asg (v := .int (numR (rs.take i) + rs[i].2)) (ev_i0 (g := fun i j => V.int (i + j)) (Evl.ev_var rfl) (ev_ixT (Evl.ev_var rfl) Evl.ev_c hu (atI_nat (j := 1) rfl))) (fun H4 e4 => ?_)
      refine Evl.q_asg (v := .int (mny (numR (rs.take i)) rs[i].2 a b)) (ev_i0 (g := fun i j => V.int (i - j)) (ev_min (Evl.ev_var rfl) (Evl.ev_var rfl)) (Evl.ev_max2 (Evl.ev_var rfl) (Evl.ev_var rfl))) (fun H5 e5 => ?_)
      refine Evl.q_when (b := decide (mny (numR (rs.take i)) rs[i].2 a b > 0)) (Evl.et_test (ev_i0 (g := fun i j => .bl (decide (i > j))) (Evl.ev_var rfl) Evl.ev_c)) (fun c H6 e6 => ?_) (fun c H6 e6 => ?_)
      · rw [if_pos (of_decide_eq_true c)] at ap
        have E6 := e4.trans (e5.trans e6)
        refine ⟨_, rfl, ?_⟩
        refine ⟨.inl ⟨rfl, vs, SqL.of (E6 _ _ hl3)⟩, ?_⟩
        refine etu_cat (K := K) (etu_of (Evl.eu_tup (vs := [.int rs[i].1, .int (mny (numR (rs.take i)) rs[i].2 a b)]) (Evl.ea_cons (ev_ixT (Evl.ev_var rfl) Evl.ev_c (Evl.ex_t E6 hu) (atI_0 _ _)) (Evl.ea_cons (Evl.ev_var rfl) Evl.ea_nil)) (show 2 ≤ 100000 by decide))) (etu_is (etu_sl (etu_ev (Evl.ev_var rfl) (Evl.ex_t E6 hu)) (Evl.eo_some Evl.ev_c) Evl.eo_none) c2) (show 2 ≤ 100000 by decide) H6 (Evl.Ex.refl _) _ fun p H7 e7 hp => ?_
        have hl7 := (E6.trans e7) _ _ hl3
        refine ⟨l, vs, _, rfl, rfl, hl7, Nat.lt_of_le_of_lt ll (by decide), ?_⟩
        refine Evl.s_asg (v := .int (numR (rs.take i) + rs[i].2)) (Evl.ev_var rfl) (fun H8 e8 => ⟨(Evl.Ex.mut (e3.trans (E6.trans e7)) nl).trans e8, Evl.ex_t e8 (sqT_updL (Evl.ex_t (E6.trans e7) ht3) hl7), vs ++ [.ref p], _, _, _, by rw [nx]; rfl, e8 _ _ upd_same, ?_⟩)
        rw [ap]
        exact ((hf3.imp fun x b r => r.ex (E6.trans e7)).app (.cons ⟨p, rfl, hp⟩ .nil)).imp fun x b r => (RP.upd hl7 r).ex e8
      · rw [if_neg (of_decide_eq_false c), List.append_nil] at ap
        have E6 := e4.trans (e5.trans e6)
        refine Evl.s_asg (v := .int (numR (rs.take i) + rs[i].2)) (Evl.ev_var rfl) (fun H8 e8 => ⟨e3.trans (E6.trans e8), Evl.ex_t (E6.trans e8) ht3, vs, _, _, _, by rw [nx]; rfl, (E6.trans e8) _ _ hl3, ?_⟩)
        rw [ap]
        exact hf3.imp fun x b r => r.ex (E6.trans e8)
    · rintro _ H3 ⟨e3, ht3, vs, t5, t6, t7, rfl, hl3, hf3⟩
      rw [List.take_of_length_le (by rw [← hf.len]; exact Nat.le_refl _)] at hf3
      exact ⟨.ref l, rfl, l, vs, rfl, SqL.of hl3, fun b o nb oc od => q b vs _ (e3.trans (Evl.Ex.new nb)) ⟨o, upd_same, oc, od⟩ (hf3.imp fun x r h => h.ex (Evl.Ex.new nb))⟩
theorem prt_cts {ps : List (Int × Int)} {f l : Int} (s : Int) (h : Cts ps) (fl : f ≤ l) : Cts (prt s f l ps) := by
  refine ⟨(prt_sub f l ps s).nodup h.nd, Nat.le_trans (prt_len _ _ _ _) h.ln, fun x hx => ?_⟩
  obtain ⟨x0, r, hr, e1, e2⟩ := prt_pos fl (fun r hr => (siz_int (h.ok r hr).2).1) x hx
  obtain ⟨a, b⟩ := h.ok r hr
  obtain ⟨b0, b1⟩ := siz_int b
  exact ⟨e1 ▸ a, siz_of x0 (by omega)⟩
theorem prt_asc {ps : List (Int × Int)} {f l : Int} (s : Int) (h : Asc ps) : Asc (prt s f l ps) := List.Pairwise.sublist (prt_sub f l ps s) h
def Ezp (K : PySem.W.Frag) (te : TE) (σ : L2.St) (H : Hp) (rs : List (Int × Int)) : Prop := ∀ H1, Evl.Ex H H1 → ∀ Q : VK, (∀ p ys H2, Evl.Ex H1 H2 → TupZ H2 p ys → F2 (RP K H2) ys rs → Q (.ref p) H2) → te σ H1 Q
theorem dz_ezp {te : TE} {σ : L2.St} {H : Hp} {rs : List (Int × Int)} (h : Ezp K te σ H rs) (hn : (rs.map Prod.fst).Nodup) : ∀ H1, Evl.Ex H H1 → ∀ Q : VK, (∀ p H2, Evl.Ex H1 H2 → H2 p = some (.dK (rs.map kc)) → Q (.ref p) H2) → tCB (rDictZ K) (tCons te tNil) σ H1 Q := fun H1 e1 Q q => h H1 e1 _ fun p ys H2 e2 hp hy =>
  dz_of (K := K) (te := fun σ H Q => Q (.ref p) H) (σ := []) (H := H2) (fun H5 e5 Q5 q5 => q5 H5 (Evl.Ex.refl _)) hp hy hn H2 (Evl.Ex.refl _) Q (fun z H3 _ e3 hz => q z H3 (e2.trans e3) hz)
theorem ok_spare {CL CS : Addr} (B : Bl mg) (D : Df K mg "spare" s_spare ["lot", "store", "size"]) (C_check_lot : Cl P w K mg base 1 "check_lot" (spIsLot K CL)) (C_check_store : Cg P w K mg base CX0 1 "check_store" (spIsSto K CS)) (C_check_size : Cl P w K mg base 3 "check_size" (spChkN sizB)) (C_check_together : Cg P w K mg base CX0 2 "check_together" (spTogN K)) (C_fits : Cg P w K mg base CX0 7 "fits" (spFits K CL CS)) (P_sizes : Pg P w K mg base 1 CL "sizes" (spSizes K CL)) (O_Lot_units : Og P w K mg base 4 CL "units" ["self", "size"] (spLotU K CL)) (O_Store_units : Og P w K mg base 4 CS "units" ["self", "size"] (spUnits K CS)) : Cg P w K mg base CX0 8 "spare" (spSpare K CL CS) := by
  refine cg_of D sc_spare (fun vs H Q E h => ?_) (fun f cdv A fr s H vs Q E hr hgd h => ?_)
  · obtain ⟨a, b, z, ps, rs, rfl, _⟩ := h
    rfl
  · obtain ⟨a, b, z, ps, rs, rfl, hl, hc, hs, ho, hz, hd, hgap, q1, q2⟩ := h
    refine ⟨_, (pss_cons (ps_expr (pcg (Cl.g C_check_lot) hr hgd (pa_cons (pv 0) pa_nil)))
    (pss_cons (ps_expr (pcg C_check_store hr hgd (pa_cons (pv 1) pa_nil)))
     (pss_cons (ps_expr (pcg (Cl.g C_check_size) hr hgd (pa_cons (pv 2) pa_nil)))
      (pss_cons (ps_expr (pcg C_check_together hr hgd (pa_cons (pe_op op_catA (pprop P_sizes hr (pv 0)) (pe_tup (pa_cons (pv 2) pa_nil))) pa_nil)))
       (pss_cons (ps_if (pt_not (pt_val (pcg C_fits hr hgd (pa_cons (pv 0) (pa_cons (pv 1) pa_nil))))) (pss_one (ps_ret pe_non)) pss_nil)
        (pss_cons (ps_setLc (i := 3) (own := [("each", 4)]) (g := (gName 4)) rfl sc_spare.nd rfl rfl (sw_true rfl rfl rfl (by decide +kernel)) (pi_tup (pe_op op_catA (pprop P_sizes hr (pv 0)) (pe_tup (pa_cons (pv 2) pa_nil)))) (blkOk_by (own := [("each", 4)]) (N := n_spare) (sc := defScope s_spare) (by decide +kernel)) (fun _ _ _ _ _ => (pg_name (i := 4) sc_spare.nd rfl (by first | exact Or.inl rfl | exact Or.inr rfl))) (fun _ _ _ _ _ => (pts_one (pt_cmpR op_le (pv 4) (pv 2) (nomark _)))) (fun _ _ _ _ _ => (pv 4)))
         (pss_one (ps_ret (pe_callB (cr_min rfl) (by rfl) B.min bt_min (pa_cons (pe_lc (own := [("each", 4)]) (g := (gName 4)) rfl sc_spare.nd (pi_list (pv 3)) (blkOk_by (own := [("each", 4)]) (N := n_spare) (sc := defScope s_spare) (by decide +kernel)) (fun _ _ _ _ _ => (pg_name (i := 4) sc_spare.nd rfl (by first | exact Or.inl rfl | exact Or.inr rfl))) (fun _ _ _ _ _ => pts_nil) (fun _ _ _ _ _ => (pe_op op_fdivW (pe_op op_sub (pmeth O_Store_units hr (pv 1) (pa_cons (pv 4) pa_nil)) (pmeth O_Lot_units hr (pv 0) (pa_cons (pv 4) pa_nil))) (pe_op op_fdivW (pv 2) (pv 4))))) pa_nil)))))))))), ?_⟩
    obtain ⟨z0, z1⟩ := siz_int hz
    have ln := hc.ct.ln
    have el : (ps.map Prod.fst ++ [z]).map V.int = (ps.map Prod.fst).map V.int ++ [.int z] := by rw [List.map_append]; rfl
    have all : ∀ H1, Evl.Ex H H1 → ∀ σ : L2.St, σ[0]? = some (some (.ref a)) → σ[2]? = some (some (.int z)) → Etu K (tOp (rCatA K) (tProp CL (spSizes K CL) [] E0 (tVar 0)) (tTup (tCons (tVar 2) tNil))) σ H1 ((ps.map Prod.fst ++ [z]).map V.int) := fun H1 e1 σ v0 v2 => by
      rw [el]
      exact etu_cat (etu_sizes (Evl.ev_var v0) (hl.up e1)) (etu_t (Evl.ea_cons (Evl.ev_var v2) Evl.ea_nil) (by show 1 ≤ 100000; decide)) (by rw [List.length_map, List.length_map]; show _ + 1 ≤ _; omega)
    have posA : ∀ n ∈ ps.map Prod.fst ++ [z], 0 < n ∧ n.natAbs < 10 ^ 200 ∧ sizB n = true := fun n hn => by
      rcases List.mem_append.mp hn with h | h
      · exact cts_pos hc.ct n h
      · rw [List.mem_singleton.mp h]
        exact ⟨z0, z1, hz⟩
    refine Evl.q_drop (ev_call1 (Evl.ev_var rfl) (chklot_v hl)) (fun H1 e1 => Evl.q_drop (ev_call1 (Evl.ev_var rfl) (fun H2 e2 Q q E => ⟨b, rs, rfl, hs.up (e1.trans e2), q⟩)) (fun H2 e2 => Evl.q_drop (ev_call1 (Evl.ev_var rfl) (chkn_v hz)) (fun H3 e3 => ?_)))
    have E3 := (e1.trans e2).trans e3
    refine all H3 E3 _ rfl rfl H3 (Evl.Ex.refl H3) _ (fun t H4 e4 ht => ⟨t, _, rfl, ht, by rw [List.length_append, List.length_map]; show _ + 1 < 60; omega, fun n hn => (posA n hn).1, hgap, fun H5 e5 => ?_⟩)
    have E5 := E3.trans (e4.trans e5)
    refine Evl.q_when (Evl.et_not (Evl.et_B (fits_e (K := K) (elot_v (Evl.ev_var rfl) (hl.up E5)) (esto_v (Evl.ev_var rfl) (hs.up E5)) hc ho))) (fun c H6 e6 => ?_) (fun c H6 e6 => ?_)
    · exact Evl.s_ret Evl.ev_c (fun H7 e7 => q1 (nt c) H7 (E5.trans (e6.trans e7)))
    · have fit := nf c
      have E6 := E5.trans e6
      refine Evl.q_asgL (xs := ((ps.map Prod.fst ++ [z]).filter fun e => decide (e ≤ z)).map V.int) (el_lcN (K := K) (ns := ps.map Prod.fst ++ [z]) (fun e => decide (e ≤ z)) (fun e => .int e) (all H6 E6 _ rfl rfl) (by rw [List.length_append, List.length_map]; show _ + 1 ≤ 40000; omega) (fun _ => rfl) (fun n _ H7 _ => Evl.et_test (ev_i0 (Evl.ev_var rfl) (Evl.ev_var rfl))) (fun n _ _ H7 _ => Evl.ev_var rfl)) (fun l H7 nl e7 hl7 => ?_)
      have E7 := E6.trans e7
      have fl : ((ps.map Prod.fst ++ [z]).filter fun e => decide (e ≤ z)).length ≤ 13 := by
        refine Nat.le_trans (List.length_filter_le _ _) ?_
        rw [List.length_append, List.length_map]
        show _ + 1 ≤ 13
        omega
      have zin : z ∈ (ps.map Prod.fst ++ [z]).filter fun e => decide (e ≤ z) := List.mem_filter.mpr ⟨List.mem_append_right _ (List.mem_singleton.mpr rfl), decide_eq_true (Int.le_refl z)⟩
      refine min_ret (K := K) (ns := sprL ps rs z) (Ck.el_is (el_lcVN (K := K) (ns := (ps.map Prod.fst ++ [z]).filter fun e => decide (e ≤ z)) (fun _ => true) (fun e => .int ((unt rs e - unt ps e) / (z / e))) (elv_v (Evl.ev_var (i := 3) rfl) (SqL.of hl7)) (by omega) (fun _ => rfl) (fun n _ H8 _ Q q => fun _ q => q _ (Evl.Ex.refl _)) (fun n hn _ H8 e8 => ?_)) ?_) (by unfold sprL; rw [List.length_map]; exact List.length_pos_of_mem zin) (fun t H8 e8 m lt => q2 fit t H8 m lt (E7.trans e8))
      · obtain ⟨m, le⟩ := List.mem_filter.mp hn
        have le := of_decide_eq_true le
        obtain ⟨n0, n1, nz⟩ := posA n m
        have k0 : 0 < z / n := Int.lt_of_lt_of_le (show (0 : Int) < 1 by decide) ((Int.le_ediv_iff_mul_le n0).mpr (by rw [Int.one_mul]; exact le))
        have dv : ∀ p ∈ ps, n < p.1 → n ∣ p.1 := fun p hp lt => by
          rcases List.mem_append.mp m with h | h
          · exact hc.dv n h p hp lt
          · rw [List.mem_singleton.mp h] at lt ⊢
            exact hd p hp lt
        exact ev_i (g := fun i j => .int (i / j)) (ev_i0 (g := fun i j => .int (i - j)) (ev_units (Evl.ev_var rfl) (Evl.ev_var rfl) (hs.up (E7.trans e8)) ho nz) (ev_lotU (Evl.ev_var rfl) (Evl.ev_var rfl) (hl.up (E7.trans e8)) hc.ct nz dv)) (ev_i (g := fun i j => .int (i / j)) (Evl.ev_var rfl) (Evl.ev_var rfl) (divW n0 n1)) (divW k0 (Nat.lt_of_le_of_lt (natAbs_div (Int.le_of_lt z0) n0) z1))
      · rw [List.filter_eq_self.mpr fun _ _ => rfl]
        unfold sprL
        rw [List.map_map]
        rfl
theorem cnt_app {a b : List (Int × Int)} {s : Int} : cnt (a ++ b) s = (cnt a s).or (cnt b s) := by
  induction a with
  | nil => rfl
  | cons p r ih =>
    show (if p.1 = s then some p.2 else cnt (r ++ b) s) = (if p.1 = s then some p.2 else cnt r s).or (cnt b s)
    split
    · rfl
    · exact ih
theorem withP_cnt {ps : List (Int × Int)} {z n s : Int} (h : (ps.map Prod.fst).Nodup) : cnt (withP ps z n) s = if s = z then (if 0 < n then some n else none) else cnt ps s := by
  unfold withP
  rw [cnt_app, cnt_fil h]
  by_cases e : s = z
  · rw [if_pos e]
    have e1 : ((cnt ps s).bind fun v => if (!decide ((s, v).1 = z)) = true then some v else none) = none := by
      cases cnt ps s with
      | none => rfl
      | some v =>
        show (if (!decide (s = z)) = true then some v else none) = none
        rw [decide_eq_true e]
        rfl
    rw [e1]
    by_cases k : 0 < n
    · rw [if_pos k, if_pos k]
      show (none : Option Int).or (if z = s then some n else none) = some n
      rw [if_pos e.symm]
      rfl
    · rw [if_neg k, if_neg k]
      rfl
  · rw [if_neg e]
    have e1 : ((cnt ps s).bind fun v => if (!decide ((s, v).1 = z)) = true then some v else none) = cnt ps s := by
      cases cnt ps s with
      | none => rfl
      | some v =>
        show (if (!decide (s = z)) = true then some v else none) = some v
        rw [decide_eq_false e]
        rfl
    have e2 : cnt (if 0 < n then [(z, n)] else []) s = none := by
      split
      · show (if z = s then some n else none) = none
        rw [if_neg (Ne.symm e)]
      · rfl
    rw [e1, e2]
    cases cnt ps s <;> rfl
theorem withP_nd {ps : List (Int × Int)} {z n : Int} (h : (ps.map Prod.fst).Nodup) : ((withP ps z n).map Prod.fst).Nodup := by
  unfold withP
  rw [List.map_append, List.nodup_append]
  refine ⟨(List.filter_sublist.map Prod.fst).nodup h, ?_, fun a ha b hb e => ?_⟩
  · split
    · exact List.nodup_cons.mpr ⟨List.not_mem_nil, List.nodup_nil⟩
    · exact List.nodup_nil
  · split at hb
    · obtain ⟨x, hx, rfl⟩ := List.mem_map.mp ha
      have := (List.mem_filter.mp hx).2
      rw [e, List.mem_singleton.mp hb, decide_eq_true rfl] at this
      cases this
    · cases hb
theorem lot_mWc (t1 t2 d : Addr) : (lotF t1 t2 d).lookup ("with_count" : Str) = none := by
  unfold lotF
  rw [lookup_putF, if_neg (by decide), lookup_putF, if_neg (by decide), lookup_putF, if_neg (by decide)]
  rfl
theorem cf_withP {ps : List (Int × Int)} {z d : Int} (h : (ps.map Prod.fst).Nodup) (hn : cnt ps z = none) (d0 : 0 ≤ d) : cf (withP ps z d) = adC (cf ps) z d := by
  funext t
  show (cnt (withP ps z d) t).getD 0 = if t = z then (cnt ps t).getD 0 + d else (cnt ps t).getD 0
  rw [withP_cnt h]
  by_cases e : t = z
  · rw [if_pos e, if_pos e, e, hn]
    by_cases p : 0 < d
    · rw [if_pos p]
      show d = 0 + d
      omega
    · rw [if_neg p]
      show (0 : Int) = 0 + d
      omega
  · rw [if_neg e, if_neg e]
def spFil (K : PySem.W.Frag) (CL CS : Addr) : Sp := fun vs H Q _ => ∃ a0 a b t ps0 qs rs L, vs = [.ref a0, .ref a, .ref b, .ref t] ∧ LotAt K CL H a0 ps0 ∧ LotC ps0 ∧ fitB ps0 rs = true ∧ LotAt K CL H a qs ∧ LotC qs ∧ StoAt K CS H b rs ∧ StoOk rs ∧ (∀ p ∈ ps0, p.1 ∈ qs.map Prod.fst) ∧ (SqT K H t (L.map V.int) ∨ SqL K H t (L.map V.int)) ∧ L.Nodup ∧ (∀ z ∈ L, z ∈ qs.map Prod.fst ∧ cnt ps0 z = none) ∧
  ∀ c fs H', Evl.Ex H H' → LotAt K CL H' c fs → LotC fs → (∀ p ∈ fs, p.1 ∈ qs.map Prod.fst) → fitB fs rs = true → Fil (qs.map Prod.fst) (cf qs) (unt rs) (cf ps0) L (cf fs) → Q (.ref c) H'
theorem ok_filled {CL CS : Addr} (B : Bl mg) (D : Df K mg "_filled" s__filled ["part", "lot", "store", "sizes"]) (C_spare : Cg P w K mg base CX0 8 "spare" (spSpare K CL CS)) (O_Lot_with_count : Og P w K mg base 6 CL "with_count" ["self", "size", "number"] (spLotWith K CL)) (O_Lot_getitem : Og P w K mg base 4 CL "__getitem__" ["self", "at"] (spItem K CL)) : Cg P w K mg base CX0 9 "_filled" (spFil K CL CS) := by
  refine cg_of D sc__filled (fun vs H Q E h => ?_) (fun f cdv A fr s H vs Q E hr hgd h => ?_)
  · obtain ⟨a0, a, b, t, ps0, qs, rs, L, rfl, _⟩ := h
    rfl
  · obtain ⟨a0, a, b, t, ps0, qs, rs, L, rfl, h0, c0, f0, hq, cq, hs, ho, k0, ht, nL, hL, q⟩ := h
    refine ⟨_, (pss_cons (ps_set (i := 4) sc__filled.nd rfl (by first | exact Or.inl rfl | exact Or.inr rfl) (pv 0))
    (pss_cons (ps_for PassesOwn.never rfl (pi_seq (pv 3)) (pg_name (i := 5) sc__filled.nd rfl (by first | exact Or.inl rfl | exact Or.inr rfl)) (pss_one (ps_set (i := 4) sc__filled.nd rfl (by first | exact Or.inl rfl | exact Or.inr rfl) (pmeth O_Lot_with_count hr (pv 4) (pa_cons (pv 5) (pa_cons (pe_callB (call_min2 rfl) (by rfl) B.min bt_min (pa_cons (pgetO O_Lot_getitem hr (pv 1) (pv 5)) (pa_cons (pcg C_spare hr hgd (pa_cons (pv 4) (pa_cons (pv 2) (pa_cons (pv 5) pa_nil)))) pa_nil))) pa_nil))))))
     (pss_one (ps_ret (pv 4))))), ?_⟩
    have hN := lotc_pws cq
    have ndN : (qs.map Prod.fst).Nodup := cq.ct.nd
    have hr0 : ∀ r ∈ rs, 0 ≤ r.1 ∧ 0 ≤ r.2 := fun r hr => by
      obtain ⟨x, y, z⟩ := ho.ok r hr
      have := (siz_int x).1
      omega
    have lN : (qs.map Prod.fst).length ≤ 12 := by rw [List.length_map]; exact cq.ct.ln
    refine Evl.q_asg (v := .ref a0) (Evl.ev_var rfl) (fun H1 e1 => ?_)
    refine q_fall (fun σ' H' => Evl.Ex H H' ∧ ∃ f ts x5, σ' = [some (.ref a0), some (.ref a), some (.ref b), some (.ref t), some (.ref f), x5] ∧ LotAt K CL H' f ts ∧ LotC ts ∧ (∀ p ∈ ts, p.1 ∈ qs.map Prod.fst) ∧ fitB ts rs = true ∧ Fil (qs.map Prod.fst) (cf qs) (unt rs) (cf ps0) L (cf ts)) ?_ (fun hz => ?_)
    · rintro σ' H' ⟨e', f, ts, x5, rfl, hl, lc, hk, ft, fl⟩
      exact ⟨_, rfl, q f ts H' e' hl lc hk ft fl⟩
    refine s_forQ (K := K) (xs := L.map V.int) (Evl.ev_var rfl) e1 ht (fun i σ' H' => Evl.Ex H H' ∧ ∃ f ts x5, σ' = [some (.ref a0), some (.ref a), some (.ref b), some (.ref t), some (.ref f), x5] ∧ LotAt K CL H' f ts ∧ LotC ts ∧ (∀ p ∈ ts, p.1 ∈ qs.map Prod.fst) ∧ fitB ts rs = true ∧ Fil (qs.map Prod.fst) (cf qs) (unt rs) (cf ps0) (L.take i) (cf ts)) (fun H2 e2 => ⟨e1.trans e2, a0, ps0, _, rfl, h0.up (e1.trans e2), c0, k0, f0, by rw [List.take_zero]; exact .nil⟩) (fun i σ' H' h => h.1) ?_ (fun σ' H' h => hz σ' H' (by
      rw [List.length_map, List.take_length] at h
      exact h))
    rintro i x σ' H' hx ⟨e', f, ts, x5, rfl, hl, lc, hk, ft, fl⟩
    rw [List.getElem?_map] at hx
    cases hzz : L[i]? with
    | none => rw [hzz] at hx; cases hx
    | some z =>
    rw [hzz] at hx
    obtain rfl := Option.some.inj hx
    obtain ⟨hi, rfl⟩ := List.getElem?_eq_some_iff.mp hzz
    have hzL := List.getElem_mem hi
    obtain ⟨zN, z0⟩ := hL _ hzL
    obtain ⟨r, hr2, re⟩ := List.mem_map.mp zN
    have hsz : sizB L[i] = true := re ▸ (cq.ct.ok r hr2).1
    have cz : cnt qs L[i] = some r.2 := (cnt_mem cq.ct.nd).mp (by rw [← re]; exact hr2)
    have hsc := (cq.ct.ok r hr2).2
    have nin : L[i] ∉ L.take i := fun h => by
      obtain ⟨j, hj, e⟩ := List.mem_take_iff_getElem.mp h
      have := (List.getElem_inj nL).mp e
      omega
    have ctz : cnt ts L[i] = none := by
      have k := fl.keep nin
      unfold cf at k
      rw [z0] at k
      cases hn : cnt ts L[i] with
      | none => rfl
      | some m =>
        rw [hn] at k
        have k : m = 0 := k
        have := (siz_int (lc.ct.ok _ ((cnt_mem lc.ct.nd).mpr hn)).2).1
        have : 0 < m := this
        omega
    obtain ⟨dx, t1, t2, d1, us, h1, _⟩ := hl.ex
    refine ⟨.ref f, rfl, f, dx, _, rfl, h1, lot_mWc t1 t2 d1, .int L[i], rfl, ?_⟩
    refine (ev_item (K := K) (Evl.ev_var rfl) (Evl.ev_var rfl) (hq.up e') hsz) H' (Evl.Ex.refl H') _ fun H2 e2 => ?_
    refine spare_c (K := K) (elot_v (Evl.ev_var rfl) (hl.up e2)) (esto_v (Evl.ev_var rfl) (hs.up (e'.trans e2))) lc ho (Evl.ev_var rfl) hsz (fun p hp lt => ?_) (gap_uni hN fun y hy => ?_) (fun z => by rw [ft] at z; cases z) (fun _ told H3 m l e3 => ?_)
    · exact pws_dvd hN zN (hk p hp) lt
    · rcases List.mem_append.mp hy with h | h
      · obtain ⟨p, hp, rfl⟩ := List.mem_map.mp h
        exact hk p hp
      · rw [List.mem_singleton.mp h]
        exact zN
    have d0 := (spr_iff hN zN hk hr0 ft m l)
    have hd2 : ∀ d : Int, d = (if told < (cnt qs L[i]).getD 0 then told else (cnt qs L[i]).getD 0) → 0 ≤ d ∧ d ≤ told ∧ d ≤ r.2 ∧ (d < r.2 → d = told) := fun d e => by
      rw [cz] at e
      have e : d = if told < r.2 then told else r.2 := e
      have := (siz_int hsc).1
      rw [e]
      split <;> omega
    refine ⟨_, _, rfl, ?_⟩
    generalize hdd : (if told < (cnt qs L[i]).getD 0 then told else (cnt qs L[i]).getD 0) = d
    obtain ⟨g0, g1, g2, g3⟩ := hd2 d hdd.symm
    have wm : ∀ p ∈ withP ts L[i] d, p ∈ ts ∨ (0 < d ∧ p = (L[i], d)) := fun p hp => by
      unfold withP at hp
      rcases List.mem_append.mp hp with h | h
      · exact .inl (List.mem_filter.mp h).1
      · split at h
        · rename_i pd
          exact .inr ⟨pd, List.mem_singleton.mp h⟩
        · cases h
    have wk : ∀ p ∈ withP ts L[i] d, p.1 ∈ qs.map Prod.fst := fun p hp => by
      rcases wm p hp with h | ⟨_, rfl⟩
      · exact hk p h
      · exact zN
    have bd : d.natAbs < 10 ^ 200 := by
      have := (siz_int hsc).2
      omega
    have cw : Cts (withP ts L[i] d) := by
      refine ⟨withP_nd lc.ct.nd, ?_, fun p hp => ?_⟩
      · have z := len_sub (withP_nd (z := L[i]) (n := d) lc.ct.nd) (bs := qs.map Prod.fst) fun x hx => by
          obtain ⟨p, hp, rfl⟩ := List.mem_map.mp hx
          exact wk p hp
        rw [List.length_map] at z
        omega
      · rcases wm p hp with h | ⟨pd, rfl⟩
        · exact lc.ct.ok p h
        · exact ⟨hsz, siz_of pd bd⟩
    have fe : Fe (qs.map Prod.fst) (unt rs) (adC (cf ts) L[i] d) := (spr_fe ndN lc.ct.nd hk zN).mp ((d0.2 d g0).mpr g1)
    have ce := cf_withP (d := d) lc.ct.nd ctz g0
    have hcb : cntB d = true := by
      rcases Int.lt_or_eq_of_le g0 with h | h
      · have x := siz_of h bd
        unfold sizB at x
        unfold cntB
        rw [Bool.and_eq_true] at x ⊢
        exact ⟨x.1, decide_eq_true g0⟩
      · rw [← h]
        decide +kernel
    have ukey : ∀ {us' : List (Int × Int)}, us'.Perm (withP ts L[i] d) → ∀ p ∈ us', p.1 ∈ qs.map Prod.fst := fun pm p hp => wk p (pm.mem_iff.mp hp)
    refine ⟨f, ts, L[i], d, rfl, hl.up (e2.trans e3), lc.ct, hsz, hcb, cw, fun c us' H4 e4 pm as' hl4 => ⟨e'.trans (e2.trans (e3.trans e4)), c, us', _, rfl, hl4, ?_, ?_, ?_, ?_⟩⟩
    · exact lotc_sub hN (cw.perm pm) as' (ukey pm)
    · exact ukey pm
    · refine (fe_fit hN ndN (cw.perm pm).nd (ukey pm) hr0).mpr ?_
      rw [cf_perm cw.nd pm, ce]
      exact fe
    · rw [List.take_add_one, List.getElem?_eq_getElem hi, cf_perm cw.nd pm, ce]
      refine fl.snoc g0 (by unfold cf; rw [cz]; exact g2) fe (fun lt => ?_)
      have lt : d < r.2 := by unfold cf at lt; rw [cz] at lt; exact lt
      have e := g3 lt
      intro fe2
      have := (d0.2 (d + 1) (by omega)).mp ((spr_fe ndN lc.ct.nd hk zN).mpr fe2)
      omega

def spKeep (K : PySem.W.Frag) (CL CS : Addr) (dsc : Bool) : Sp := fun vs H Q _ => ∃ a b qs rs, vs = [.ref a, .ref b] ∧ LotAt K CL H a qs ∧ LotC qs ∧ StoAt K CS H b rs ∧ StoOk rs ∧
  ∀ c fs H', Evl.Ex H H' → LotAt K CL H' c fs → LotC fs → (∀ p ∈ fs, p.1 ∈ qs.map Prod.fst) → fitB fs rs = true → Fil (qs.map Prod.fst) (cf qs) (unt rs) (fun _ => 0) (if dsc then (qs.map Prod.fst).reverse else qs.map Prod.fst) (cf fs) → Q (.ref c) H'
theorem lotc_nil : LotC [] := ⟨cts_nil, List.Pairwise.nil, rfl⟩
theorem fil_ret {CL CS : Addr} {σ : L2.St} {H : Hp} {D : Ends} {t0 ta tb tt : TE} {ps0 qs rs : List (Int × Int)} {L : List Int} (h0 : Elot K CL t0 σ H ps0) (ha : Elot K CL ta σ H qs) (hb : Esto K CS tb σ H rs) (ht : Etu K tt σ H (L.map V.int)) (c0 : LotC ps0) (f0 : fitB ps0 rs = true) (cq : LotC qs) (ho : StoOk rs) (k0 : ∀ p ∈ ps0, p.1 ∈ qs.map Prod.fst) (nL : L.Nodup) (hL : ∀ z ∈ L, z ∈ qs.map Prod.fst ∧ cnt ps0 z = none)
    (q : ∀ c fs H', Evl.Ex H H' → LotAt K CL H' c fs → LotC fs → (∀ p ∈ fs, p.1 ∈ qs.map Prod.fst) → fitB fs rs = true → Fil (qs.map Prod.fst) (cf qs) (unt rs) (cf ps0) L (cf fs) → D.rt (.ref c) H') :
    tRet (tCall (spFil K CL CS) [] E0 (tCons t0 (tCons ta (tCons tb (tCons tt tNil))))) D σ H := h0 H (Evl.Ex.refl H) _ fun a0 H2 e2 l0 => ha H2 e2 _ fun a H3 e3 la => hb H3 (e2.trans e3) _ fun b H4 e4 lb => ht H4 (e2.trans (e3.trans e4)) _ fun t H5 e5 lt =>
  ⟨a0, a, b, t, ps0, qs, rs, L, rfl, l0.up (e3.trans (e4.trans e5)), c0, f0, la.up (e4.trans e5), cq, lb.up e5, ho, k0, .inl lt, nL, hL, fun c fs H6 e6 => q c fs H6 (e2.trans (e3.trans (e4.trans (e5.trans e6))))⟩
theorem ok_keepT {CL CS : Addr} (B : Bl mg) (D : Df K mg "keep_things" s_keep_things ["lot", "store"]) (C_check_most : Cg P w K mg base CX0 3 "check_most" (spChkL K CL CS)) (C__filled : Cg P w K mg base CX0 9 "_filled" (spFil K CL CS)) (P_sizes : Pg P w K mg base 1 CL "sizes" (spSizes K CL)) (M0_Lot : Mkc P w K mg base 4 "Lot" CL fun vs H Q E => spLotI K CL (vs ++ [.non]) H Q E) : Cg P w K mg base CX0 10 "keep_things" (spKeep K CL CS false) := by
  refine cg_of D sc_keep_things (fun vs H Q E h => ?_) (fun f cdv A fr s H vs Q E hr hgd h => ?_)
  · obtain ⟨a, b, qs, rs, rfl, _⟩ := h
    rfl
  · obtain ⟨a, b, qs, rs, rfl, hl, hc, hs, ho, q⟩ := h
    refine ⟨_, (pss_cons (ps_expr (pcg C_check_most hr hgd (pa_cons (pv 0) (pa_cons (pv 1) pa_nil))))
    (pss_one (ps_ret (pcg C__filled hr hgd (pa_cons (pmk0 M0_Lot hr) (pa_cons (pv 0) (pa_cons (pv 1) (pa_cons (pprop P_sizes hr (pv 0)) pa_nil)))))))), ?_⟩
    refine Evl.q_drop (Evl.ev_call (Evl.ea_cons (Evl.ev_var rfl) (Evl.ea_cons (Evl.ev_var rfl) Evl.ea_nil)) (fun H1 e1 Q q E => ⟨a, b, qs, rs, rfl, hl.up e1, hc, hs.up e1, q⟩)) (fun H1 e1 => ?_)
    exact fil_ret (K := K) (CL := CL) (CS := CS) (ps0 := []) (L := qs.map Prod.fst) elot_0 (elot_v (Evl.ev_var rfl) (hl.up e1)) (esto_v (Evl.ev_var rfl) (hs.up e1)) (etu_sizes (Evl.ev_var rfl) (hl.up e1)) lotc_nil rfl hc ho (fun p hp => nomatch hp) hc.ct.nd (fun z hz => ⟨hz, rfl⟩) (fun c fs H4 e4 h1 h2 h3 h4 h5 => q c fs H4 (e1.trans e4) h1 h2 h3 h4 h5)
theorem ok_keepW {CL CS : Addr} (B : Bl mg) (D : Df K mg "keep_total" s_keep_total ["lot", "store"]) (C_check_most : Cg P w K mg base CX0 3 "check_most" (spChkL K CL CS)) (C__filled : Cg P w K mg base CX0 9 "_filled" (spFil K CL CS)) (P_sizes : Pg P w K mg base 1 CL "sizes" (spSizes K CL)) (M0_Lot : Mkc P w K mg base 4 "Lot" CL fun vs H Q E => spLotI K CL (vs ++ [.non]) H Q E) : Cg P w K mg base CX0 10 "keep_total" (spKeep K CL CS true) := by
  refine cg_of D sc_keep_total (fun vs H Q E h => ?_) (fun f cdv A fr s H vs Q E hr hgd h => ?_)
  · obtain ⟨a, b, qs, rs, rfl, _⟩ := h
    rfl
  · obtain ⟨a, b, qs, rs, rfl, hl, hc, hs, ho, q⟩ := h
    refine ⟨_, (pss_cons (ps_expr (pcg C_check_most hr hgd (pa_cons (pv 0) (pa_cons (pv 1) pa_nil))))
    (pss_one (ps_ret (pcg C__filled hr hgd (pa_cons (pmk0 M0_Lot hr) (pa_cons (pv 0) (pa_cons (pv 1) (pa_cons (pe_revT (pprop P_sizes hr (pv 0))) pa_nil)))))))), ?_⟩
    refine Evl.q_drop (Evl.ev_call (Evl.ea_cons (Evl.ev_var rfl) (Evl.ea_cons (Evl.ev_var rfl) Evl.ea_nil)) (fun H1 e1 Q q E => ⟨a, b, qs, rs, rfl, hl.up e1, hc, hs.up e1, q⟩)) (fun H1 e1 => ?_)
    refine fil_ret (K := K) (CL := CL) (CS := CS) (ps0 := []) (L := (qs.map Prod.fst).reverse) elot_0 (elot_v (Evl.ev_var rfl) (hl.up e1)) (esto_v (Evl.ev_var rfl) (hs.up e1)) (etu_is (etu_rev (etu_sizes (Evl.ev_var rfl) (hl.up e1))) List.map_reverse.symm) lotc_nil rfl hc ho (fun p hp => nomatch hp) ?_ (fun z hz => ⟨List.mem_reverse.mp hz, rfl⟩) (fun c fs H4 e4 h1 h2 h3 h4 h5 => q c fs H4 (e1.trans e4) h1 h2 h3 h4 h5)
    exact (List.pairwise_reverse.mpr hc.asc).imp fun {a b} (h : b < a) (e : a = b) => by omega
def spMostT (K : PySem.W.Frag) (CL CS : Addr) : Sp := fun vs H Q _ => ∃ a b qs rs, vs = [.ref a, .ref b] ∧ LotAt K CL H a qs ∧ LotC qs ∧ StoAt K CS H b rs ∧ StoOk rs ∧
  ∀ fs H', Evl.Ex H H' → LotC fs → (∀ p ∈ fs, p.1 ∈ qs.map Prod.fst) → fitB fs rs = true → Fil (qs.map Prod.fst) (cf qs) (unt rs) (fun _ => 0) (qs.map Prod.fst) (cf fs) → Q (.int (fs.map fun (r : Int × Int) => r.2).sum) H'
theorem ok_mostT {CL CS : Addr} (B : Bl mg) (D : Df K mg "most_things" s_most_things ["lot", "store"]) (C_keep_things : Cg P w K mg base CX0 10 "keep_things" (spKeep K CL CS false)) (P_number : Pg P w K mg base 2 CL "number" (spLNum K CL)) : Cg P w K mg base CX0 11 "most_things" (spMostT K CL CS) := by
  refine cg_of D sc_most_things (fun vs H Q E h => ?_) (fun f cdv A fr s H vs Q E hr hgd h => ?_)
  · obtain ⟨a, b, qs, rs, rfl, _⟩ := h
    rfl
  · obtain ⟨a, b, qs, rs, rfl, hl, hc, hs, ho, q⟩ := h
    refine ⟨_, (pss_one (ps_ret (pprop P_number hr (pcg C_keep_things hr hgd (pa_cons (pv 0) (pa_cons (pv 1) pa_nil)))))), ?_⟩
    refine ⟨.ref a, rfl, .ref b, rfl, a, b, qs, rs, rfl, hl, hc, hs, ho, fun c fs H1 e1 h1 h2 h3 h4 h5 => ?_⟩
    obtain ⟨dx, t1, t2, d, ts, x1, _⟩ := h1.ex
    exact ⟨c, dx, _, rfl, x1, c, fs, rfl, h1, by have := h2.ct.ln; omega, fun H2 e2 => q fs H2 (e1.trans e2) h2 h3 h4 h5⟩
def spMostW (K : PySem.W.Frag) (CL CS : Addr) : Sp := fun vs H Q _ => ∃ a b qs rs, vs = [.ref a, .ref b] ∧ LotAt K CL H a qs ∧ LotC qs ∧ StoAt K CS H b rs ∧ StoOk rs ∧
  ∀ fs H', Evl.Ex H H' → LotC fs → (∀ p ∈ fs, p.1 ∈ qs.map Prod.fst) → fitB fs rs = true → Fil (qs.map Prod.fst) (cf qs) (unt rs) (fun _ => 0) (qs.map Prod.fst).reverse (cf fs) → Q (.int (tot fs)) H'
theorem ok_mostW {CL CS : Addr} (B : Bl mg) (D : Df K mg "most_total" s_most_total ["lot", "store"]) (C_keep_total : Cg P w K mg base CX0 10 "keep_total" (spKeep K CL CS true)) (P_total : Pg P w K mg base 1 CL "total" (spTotal K CL)) : Cg P w K mg base CX0 11 "most_total" (spMostW K CL CS) := by
  refine cg_of D sc_most_total (fun vs H Q E h => ?_) (fun f cdv A fr s H vs Q E hr hgd h => ?_)
  · obtain ⟨a, b, qs, rs, rfl, _⟩ := h
    rfl
  · obtain ⟨a, b, qs, rs, rfl, hl, hc, hs, ho, q⟩ := h
    refine ⟨_, (pss_one (ps_ret (pprop P_total hr (pcg C_keep_total hr hgd (pa_cons (pv 0) (pa_cons (pv 1) pa_nil)))))), ?_⟩
    refine ⟨.ref a, rfl, .ref b, rfl, a, b, qs, rs, rfl, hl, hc, hs, ho, fun c fs H1 e1 h1 h2 h3 h4 h5 => ?_⟩
    obtain ⟨dx, t1, t2, d, ts, x1, _⟩ := h1.ex
    exact ⟨c, dx, _, rfl, x1, c, fs, rfl, h1, h2.ct, fun H2 e2 => q fs H2 (e1.trans e2) h2 h3 h4 h5⟩
def spFitP (K : PySem.W.Frag) (CL CS : Addr) : Sp := fun vs H Q _ => ∃ a b v qs rs os, vs = [.ref a, .ref b, .ref v] ∧ LotAt K CL H a qs ∧ StoAt K CS H b rs ∧ StoOk rs ∧ LotAt K CL H v os ∧ LotC os ∧ ∀ H', Evl.Ex H H' → Q (.bl (partB os qs && fitB os rs)) H'
theorem ok_fitp {CL CS : Addr} (B : Bl mg) (LT_Lot : LotT K mg CL) (D : Df K mg "_is_fitting_part" s__is_fitting_part ["lot", "store", "value"]) (O_Lot_is_part_of : Og P w K mg base 6 CL "is_part_of" ["self", "value"] (spPartOf K CL)) (C_fits : Cg P w K mg base CX0 7 "fits" (spFits K CL CS)) : Cg P w K mg base CX0 8 "_is_fitting_part" (spFitP K CL CS) := by
  refine cg_of D sc__is_fitting_part (fun vs H Q E h => ?_) (fun f cdv A fr s H vs Q E hr hgd h => ?_)
  · obtain ⟨a, b, v, qs, rs, os, rfl, _⟩ := h
    rfl
  · obtain ⟨a, b, v, qs, rs, os, rfl, hl, hs, ho, hv, hc, q⟩ := h
    refine ⟨_, (pss_one (ps_ret (pe_and (pe_callB call_isi (by rfl) B.isinstance bt_isinstance (pa_cons (pv 2) (pa_cons (pe_glob (v := V.ref _) (by rfl) LT_Lot.k.g rfl) pa_nil))) (pe_and (pmeth O_Lot_is_part_of hr (pv 2) (pa_cons (pv 0) pa_nil)) (pe_one (pcg C_fits hr hgd (pa_cons (pv 2) (pa_cons (pv 1) pa_nil)))))))), ?_⟩
    obtain ⟨dx, t1, t2, d, ts, h1, _⟩ := hv.ex
    refine Evl.s_ret (Evl.ev_is (Evl.ev_andV (a := true) (b := partB os qs && fitB os rs) (ev_isi (Evl.ev_var rfl) Evl.ev_c (.own CL) (fun H1 e => LT_Lot.k.ty (e _ _ h1)) kit_self) (fun _ => Evl.ev_andV (fun H1 e1 Q1 q1 => ?_) (fun _ => fits_e (K := K) (elot_v (Evl.ev_var rfl) hv) (esto_v (Evl.ev_var rfl) hs) hc ho))) rfl) q
    exact ⟨.ref v, rfl, v, dx, _, rfl, e1 _ _ h1, lot_meth t1 t2 d, .ref a, rfl, v, a, os, qs, rfl, hv.up e1, hl.up e1, hc.ct, fun H2 e2 => q1 H2 e2⟩
theorem ok_roll (B : Bl mg) (D : Df K mg "_law_roll" s__law_roll ["dice", "total"]) : Cg P w K mg base CX0 1 "_law_roll" spRoll := by
  refine cg_of D sc__law_roll (fun vs H Q E h => ?_) (fun f cdv A fr s H vs Q E hr hgd h => ?_)
  · obtain ⟨d, t, rfl, _⟩ := h
    rfl
  · obtain ⟨d, t, rfl, ht, ht2, ⟨a, b, c, hd⟩, q⟩ := h
    refine ⟨_, (pss_cons (ps_if (pt_cmpR op_gt (pe_ix ix_list (pv 0) pe_int (fun _ _ => rfl)) pe_int (nomark _)) (pss_cons (ps_set (i := 2) sc__law_roll.nd rfl (by first | exact Or.inl rfl | exact Or.inr rfl) (pe_op op_mod (pe_callTy call_int1 (by rfl) B.int bt_int (pa_cons (pe_ix ix_list (pv 0) pe_int (fun _ _ => rfl)) pa_nil)) (pv 1)))
    (pss_cons (ps_asg (pe_op op_fdiv (pe_ix ix_list (pv 0) pe_int (fun _ _ => rfl)) (pv 1)) (pg_sub (pv 0) pe_int set_list))
     (pss_one (ps_ret (pv 2))))) pss_nil)
    (pss_cons (ps_asg (pe_op op_add (pe_ix ix_list (pv 0) pe_int (fun _ _ => rfl)) pe_int) (pg_sub (pv 0) pe_int set_list))
     (pss_cons (ps_set (i := 3) sc__law_roll.nd rfl (by first | exact Or.inl rfl | exact Or.inr rfl) (pe_op op_mod (pe_callTy call_int1 (by rfl) B.int bt_int (pa_cons (pe_op op_add (pe_ix ix_list (pv 0) pe_int (fun _ _ => rfl)) (pe_op op_mul pe_int (pe_ix ix_list (pv 0) pe_int (fun _ _ => rfl)))) pa_nil)) pe_int))
      (pss_cons (ps_set (i := 4) sc__law_roll.nd rfl (by first | exact Or.inl rfl | exact Or.inr rfl) (pe_op op_add (pe_op op_mul (pe_op op_mod (pe_callTy call_int1 (by rfl) B.int bt_int (pa_cons (pe_op op_add (pe_op op_mul (pv 3) (pv 3)) (pe_op op_mul pe_int (pe_ix ix_list (pv 0) pe_int (fun _ _ => rfl)))) pa_nil)) pe_int) pe_int) (pv 3)))
       (pss_one (ps_ret (pe_op op_mod (pe_callTy call_int1 (by rfl) B.int bt_int (pa_cons (pe_op op_fdiv (pv 4) pe_int) pa_nil)) (pv 1)))))))), ?_⟩
    refine ⟨.ref d, rfl, d, _, 0, _, rfl, rfl, SqL.of hd, atI_nat (j := 0) rfl, a, 0, rfl, rfl, _, rfl, ifd (fun e => ?_) (fun e => ?_)⟩
    · refine ⟨.ref d, rfl, d, _, 0, _, rfl, rfl, SqL.of hd, atI_nat (j := 0) rfl, .inl ⟨a, rfl, .int t, rfl, a, t, rfl, rfl, ht, ?_⟩⟩
      refine ⟨.ref d, rfl, d, _, 0, _, rfl, rfl, SqL.of hd, atI_nat (j := 0) rfl, .int t, rfl, a, t, rfl, rfl, ⟨ht, ht2⟩, ?_⟩
      refine ⟨.ref d, rfl, d, _, 0, 0, rfl, rfl, hd, rfl, ?_⟩
      exact ⟨_, rfl, q _ _ (Int.emod_nonneg _ (by omega)) (Int.emod_lt_of_pos _ ht) Dice.at But.put⟩
    · refine ⟨.ref d, rfl, d, _, 2, _, rfl, rfl, SqL.of hd, atI_nat (j := 2) rfl, c, 1, rfl, rfl, ?_⟩
      refine ⟨.ref d, rfl, d, _, 2, 2, rfl, rfl, hd, rfl, ?_⟩
      generalize hH1 : upd H d _ = H1
      have hd1 : H1 d = some (.lst [.int a, .int b, .int (c + 1)]) := by rw [← hH1]; exact upd_same
      have k1 : But d H H1 := fun b n => by rw [← hH1, upd_ne n]
      refine ⟨.ref d, rfl, d, _, 1, _, rfl, rfl, SqL.of hd1, atI_nat (j := 1) rfl, .ref d, rfl, d, _, 2, _, rfl, rfl, SqL.of hd1, atI_nat (j := 2) rfl, _, _, rfl, rfl, .inl (by decide), _, _, rfl, rfl, .inl ⟨_, rfl, ?_⟩⟩
      refine r_modC (by decide) fun one h0 h1 => ?_
      refine ⟨.int one, rfl, .int one, rfl, one, one, rfl, rfl, .inl (by omega), .ref d, rfl, d, _, 2, _, rfl, rfl, SqL.of hd1, atI_nat (j := 2) rfl, _, _, rfl, rfl, .inl (by decide), _, _, rfl, rfl, .inl ⟨_, rfl, ?_⟩⟩
      refine r_modC (by decide) fun x x0 x1 => ?_
      refine ⟨_, _, rfl, rfl, .inr (by decide), .int one, rfl, _, _, rfl, rfl, ?_⟩
      refine ⟨_, rfl, _, _, rfl, rfl, ⟨by decide, by decide⟩, .inl ⟨_, rfl, .int t, rfl, ?_⟩⟩
      exact r_mod ht fun r r0 r1 => q r H1 r0 r1 ⟨_, _, _, hd1⟩ k1
theorem ok_dice (B : Bl mg) (D : Df K mg "_law_dice" s__law_dice ["script", "spot"]) : Cg P w K mg base CX0 1 "_law_dice" (spDice K) := by
  refine cg_of D sc__law_dice (fun vs H Q E h => ?_) (fun f cdv A fr s H vs Q E hr hgd h => ?_)
  · obtain ⟨a, k, ns, rfl, _⟩ := h
    rfl
  · obtain ⟨a, k, ns, rfl, ha, q⟩ := h
    refine ⟨_, (pss_cons (ps_set (i := 2) sc__law_dice.nd rfl (by first | exact Or.inl rfl | exact Or.inr rfl) (pe_ifExp (pt_cmpR op_lt (pv 1) (pe_callB call_len_seq (by rfl) B.len bt_len (pa_cons (pv 0) pa_nil)) (nomark _)) (pe_callTy call_int1 (by rfl) B.int bt_int (pa_cons (pe_ix ix_list (pv 0) (pv 1) (fun _ _ => rfl)) pa_nil)) (pe_op op_add (pe_op op_mul pe_int (pv 1)) pe_int)))
    (pss_cons (ps_set (i := 3) sc__law_dice.nd rfl (by first | exact Or.inl rfl | exact Or.inr rfl) (pe_op op_mod (pe_callB (call_max2 rfl) (by rfl) B.max bt_max (pa_cons pe_int (pa_cons (pe_op op_sub (pe_callB call_abs (by rfl) B.abs bt_abs (pa_cons (pv 2) pa_nil)) (pe_op op_pow pe_int pe_int)) pa_nil))) (pe_op op_mulW (pe_op op_pow pe_int pe_int) (pe_op op_pow pe_int pe_int))))
     (pss_one (ps_ret (pe_lst (pa_cons (pv 3) (pa_cons (pe_op op_add (pe_op op_add (pe_op op_add (pe_op op_mul (pe_op op_mod (pe_callB call_abs (by rfl) B.abs bt_abs (pa_cons (pv 2) pa_nil)) pe_int) pe_int) (pe_op op_mul pe_int (pv 1))) (pe_op op_mul pe_int (pe_callTy call_int1 (by rfl) B.int bt_int (pa_cons (pe_cmpR op_lt (pv 2) pe_int (nomark _)) pa_nil)))) pe_int) (pa_cons pe_int pa_nil)))))))), ?_⟩
    refine ⟨.int (k : Int), rfl, .ref a, rfl, a, _, rfl, .inl ha, _, _, rfl, rfl, _, rfl, join IsI ?_ (fun e Q' q' => ?_) (fun e Q' q' => ?_)⟩
    · rintro _ ⟨cell, rfl⟩
      refine ⟨.int cell, rfl, cell, rfl, _, _, rfl, rfl, pow_ok (by decide +kernel), _, _, rfl, rfl, _, _, rfl, _, _, rfl, rfl, pow_ok (by decide +kernel), _, _, rfl, rfl, pow_ok (by decide +kernel), _, _, rfl, rfl, ten60, ?_⟩
      refine r_mod (by decide +kernel) fun left _ _ => ?_
      refine ⟨_, rfl, .int cell, rfl, cell, rfl, ?_⟩
      refine r_modC (by decide) fun x _ _ => ?_
      refine ⟨_, _, rfl, rfl, .inr (by decide), .int (k : Int), rfl, _, _, rfl, rfl, .inl (by decide), _, _, rfl, rfl, .int cell, rfl, _, _, rfl, rfl, .inr ⟨_, rfl, _, _, rfl, rfl, .inl (by decide), _, _, rfl, rfl, _, _, rfl, rfl, ?_⟩⟩
      exact ⟨(show 3 ≤ sizeLine by decide), fun p hp => q p hp _ Dice.at But.put⟩
    · obtain ⟨i, hi⟩ := at_int e
      exact ⟨.ref a, rfl, .int (k : Int), rfl, a, _, _, _, rfl, rfl, ha, hi, .inl ⟨i, rfl, q' _ ⟨i, rfl⟩⟩⟩
    · exact ⟨.int (k : Int), rfl, _, _, rfl, rfl, .inl (by decide), _, _, rfl, rfl, q' _ ⟨_, rfl⟩⟩

def spGreat : Sp := fun vs H Q _ => ∃ d z, vs = [.ref d, .int z] ∧ Dice H d ∧ ∀ (i : Int) H', 0 ≤ i → i < 10 ^ 31 → Kd d H H' → Q (.int (z + i)) H'
def spLong (K : PySem.W.Frag) : Sp := fun vs H Q _ => ∃ d, vs = [.ref d] ∧ Dice H d ∧ ∀ (p : Addr) (ns : List Int) (L : Int) (H' : Hp), Kd d H H' → p ≠ d → SqT K H' p (ns.map V.int) → ns.length ≤ 6 → Chd ns L → L < 10 ^ 27 → Q (.ref p) H'
structure Grt (ns : List Int) (ps : List (Int × Int)) : Prop where
  nd : (ps.map Prod.fst).Nodup
  sub : ∀ p ∈ ps, p.1 ∈ ns ∧ 0 < p.2 ∧ p.2 ≤ 10 ^ 31
  ln : ps.length ≤ ns.length
def spGl (K : PySem.W.Frag) : Sp := fun vs H Q _ => ∃ (d p : Addr) (ns : List Int), vs = [.ref d, .ref p] ∧ p ≠ d ∧ Dice H d ∧ SqT K H p (ns.map V.int) ∧ ns.length ≤ 100 ∧ ns.Nodup ∧ ∀ (q : Addr) (ps : List (Int × Int)) (H' : Hp), Kd d H H' → q ≠ d → H' q = some (.dK (ps.map kc)) → Grt ns ps → Q (.ref q) H'
theorem ok_great (B : Bl mg) (D : Df K mg "_law_great" s__law_great ["dice", "least"]) (C__law_roll : Cg P w K mg base CX0 1 "_law_roll" spRoll) : Cg P w K mg base CX0 2 "_law_great" spGreat := by
  refine cg_of D sc__law_great (fun vs H Q E h => ?_) (fun f cdv A fr s H vs Q E hr hgd h => ?_)
  · obtain ⟨d, z, rfl, _⟩ := h
    rfl
  · obtain ⟨d, z, rfl, hd, q⟩ := h
    refine ⟨_, (pss_cons (ps_par (i := 2) (j := 3) rfl sc__law_great.nd rfl rfl (by decide) rfl rfl (pa_cons (pcg C__law_roll hr hgd (pa_cons (pv 0) (pa_cons pe_int pa_nil))) (pa_cons pe_int pa_nil)) (by rfl))
    (pss_cons (ps_for PassesOwn.never rfl (pi_range1 (by rfl) B.range (pa_cons (pe_ifExp (pt_cmpR op_eq (pv 2) pe_int (nomark _)) pe_int pe_int) pa_nil)) (pg_name (i := 4) sc__law_great.nd rfl (by first | exact Or.inl rfl | exact Or.inr rfl)) (pss_one (ps_set (i := 3) sc__law_great.nd rfl (by first | exact Or.inl rfl | exact Or.inr rfl) (pe_op op_add (pe_op op_mul (pv 3) pe_int) (pcg C__law_roll hr hgd (pa_cons (pv 0) (pa_cons pe_int pa_nil)))))))
     (pss_one (ps_ret (pe_op op_add (pv 1) (pe_ifExp (pt_cmpR op_lt (pv 2) pe_int (nomark _)) (pv 3) (pe_op op_mod (pv 3) pe_int))))))), ?_⟩
    refine ⟨.ref d, rfl, d, 4, rfl, by decide, by decide, hd, fun r H1 r0 r1 hd1 k1 => ⟨_, _, rfl, ?_⟩⟩
    have kd1 : Kd d H H1 := Kd.but hd1 k1
    have e6 : (100003 : Int) ^ 6 < 10 ^ 31 := by decide +kernel
    refine Evl.q_forR1 (n := if r = 0 then 6 else 1) (Evl.ea_cons (Evl.ev_if (b := decide (r = 0)) (Evl.et_is (Evl.et_test (ev_eq (Evl.ev_var rfl) Evl.ev_c rfl)) (decide_eq_decide.mpr ⟨V.int.inj, congrArg V.int⟩)) (fun z => Evl.ev_is Evl.ev_c (by rw [if_pos (of_decide_eq_true z)])) (fun z => Evl.ev_is Evl.ev_c (by rw [if_neg (of_decide_eq_false z)]))) Evl.ea_nil)
      (by split <;> omega) (fun i σ H' => Kd d H H' ∧ ∃ (f : Int) (t : Option V), σ = [some (.ref d), some (.int z), some (.int r), some (.int f), t] ∧ 0 ≤ f ∧ f < 100003 ^ i) (fun H2 e2 => ⟨kd1.to e2, 0, none, rfl, by decide, by decide⟩) ?_ ?_
    · rintro i _ H2 hi ⟨k2, f, t, rfl, f0, f1⟩
      refine ⟨.int f, rfl, _, _, rfl, rfl, .inr (by decide), .ref d, rfl, d, 100003, rfl, by decide, by decide, k2.2, fun x H3 x0 x1 hd3 k3 => ⟨_, _, rfl, rfl, k2.trans (Kd.but hd3 k3), _, _, rfl, by omega, ?_⟩⟩
      rw [Int.pow_succ]
      omega
    · rintro _ H2 ⟨k2, f, t, rfl, f0, f1⟩
      have fl : f < 10 ^ 31 := by
        refine Int.lt_of_lt_of_le f1 ?_
        split
        · exact Int.le_of_lt e6
        · decide +kernel
      refine ⟨_, rfl, _, rfl, _, _, rfl, rfl, _, rfl, ifd (fun _ => ?_) (fun _ => ?_)⟩
      · refine ⟨.int f, rfl, _, _, rfl, rfl, ?_⟩
        exact q f H2 f0 fl k2
      · refine ⟨.int f, rfl, r_modC (by decide) fun x x0 x1 => ⟨_, _, rfl, rfl, ?_⟩⟩
        exact q x H2 x0 (Int.lt_trans x1 (by decide +kernel)) k2
theorem ok_long (B : Bl mg) (D : Df K mg "_law_long_chain" s__law_long_chain ["dice"]) (C__law_roll : Cg P w K mg base CX0 1 "_law_roll" spRoll) : Cg P w K mg base CX0 2 "_law_long_chain" (spLong K) := by
  refine cg_of D sc__law_long_chain (fun vs H Q E h => ?_) (fun f cdv A fr s H vs Q E hr hgd h => ?_)
  · obtain ⟨d, rfl, _⟩ := h
    rfl
  · obtain ⟨d, rfl, hd, q⟩ := h
    refine ⟨_, (pss_cons (ps_set (i := 1) sc__law_long_chain.nd rfl (by first | exact Or.inl rfl | exact Or.inr rfl) (pe_lst (pa_cons (pe_op op_add pe_int (pcg C__law_roll hr hgd (pa_cons (pv 0) (pa_cons pe_int pa_nil)))) pa_nil)))
    (pss_cons (ps_for PassesOwn.never rfl (pi_range1 (by rfl) B.range (pa_cons (pcg C__law_roll hr hgd (pa_cons (pv 0) (pa_cons pe_int pa_nil))) pa_nil)) (pg_name (i := 2) sc__law_long_chain.nd rfl (by first | exact Or.inl rfl | exact Or.inr rfl)) (pss_cons (ps_set (i := 3) sc__law_long_chain.nd rfl (by first | exact Or.inl rfl | exact Or.inr rfl) (pe_ifExp (pt_cmpR op_gt (pcg C__law_roll hr hgd (pa_cons (pv 0) (pa_cons pe_int pa_nil))) pe_int (nomark _)) (pe_op op_add pe_int (pcg C__law_roll hr hgd (pa_cons (pv 0) (pa_cons pe_int pa_nil)))) (pe_op op_add pe_int (pcg C__law_roll hr hgd (pa_cons (pv 0) (pa_cons pe_int pa_nil))))))
    (pss_one (ps_expr (pe_bm PySem.F.plainAttrs_list PySem.F.slot_list_append PySem.F.type_list_append mt_append (pv 1) (pa_cons (pe_op op_mul (pe_ix ix_list (pv 1) (pe_un un_neg pe_int) (fun _ _ => rfl)) (pv 3)) pa_nil))))))
     (pss_one (ps_ret (pe_callTy call_tuple_of (by rfl) B.tuple bt_tuple (pa_cons (pv 1) pa_nil)))))), ?_⟩
    refine ⟨.ref d, rfl, d, 5, rfl, by decide, by decide, hd, fun r H1 r0 r1 hd1 k1 => ⟨_, _, rfl, rfl, (show 1 ≤ sizeLine by decide), fun l hl => ?_⟩⟩
    have ne := hd1.ne hl
    have hl0 : H l = none := (k1 l ne).symm.trans hl
    refine ⟨.ref d, rfl, d, 6, rfl, by decide, by decide, hd1.new hl, fun n H2 n0 n1 hd2 k2 => ⟨n, rfl, by omega, by omega, ?_⟩⟩
    refine for_range (fun i σ H' => Kd d H H' ∧ ∃ (ns : List Int) (L : Int) (t s : Option V), σ = [some (.ref d), some (.ref l), t, s] ∧ H' l = some (.lst (ns.map V.int)) ∧ Chd ns L ∧ L ≤ 5 * 100005 ^ i ∧ ns.length = i + 1) ?_ ?_ ?_
    · refine ⟨(Kd.but hd1 k1).trans ((Kd.ex hd1 (Evl.Ex.new hl)).trans (Kd.but hd2 k2)), [1 + r], 1 + r, none, none, rfl, ?_, Chd.one (by omega), by omega, rfl⟩
      rw [k2 l ne]; exact upd_same
    · rintro i _ H2 hi ⟨k3, ns, L, t, s, rfl, hl2, hc, hL, hn⟩
      refine sq_asgK (d := d) (Pr := fun v => ∃ y : Int, v = .int y ∧ 2 ≤ y ∧ y ≤ 100005) k3.2 (fun H3 k4 Q q => ⟨.ref d, rfl, d, 3, rfl, by decide, by decide, k4.2, fun x H4 x0 x1 hd5 k5 => ⟨_, _, rfl, rfl, _, rfl, ifd
        (fun _ => ⟨.ref d, rfl, d, 3, rfl, by decide, by decide, hd5, fun y H5 y0 y1 hd6 k6 => ⟨_, _, rfl, rfl, q _ _ ((Kd.but hd5 k5).trans (Kd.but hd6 k6)) ⟨2 + y, rfl, by omega, by omega⟩⟩⟩)
        (fun _ => ⟨.ref d, rfl, d, 100003, rfl, by decide, by decide, hd5, fun y H5 y0 y1 hd6 k6 => ⟨_, _, rfl, rfl, q _ _ ((Kd.but hd5 k5).trans (Kd.but hd6 k6)) ⟨2 + y, rfl, by omega, by omega⟩⟩⟩)⟩⟩) ?_
      rintro _ H3 k4 ⟨y, rfl, y0, y1⟩
      have l3 : H3 l = some (.lst (ns.map V.int)) := k4.1 l _ ne hl2
      have lpos := hc.posL
      refine Evl.s_app l3 (Evl.ev_var rfl) (v := .int (L * y)) (ev_i (g := fun i j => .int (i * j)) (ev_ixL (Evl.ev_var rfl) (Evl.ev_un Evl.ev_c Evl.ru_neg) (SqL.of l3) hc.at) (Evl.ev_var rfl) (.inr ⟨by omega, by omega⟩)) (by rw [List.length_map]; omega) (fun H4 e4 => ?_)
      refine ⟨⟨Kp.mut ((k3.trans k4).to e4).1 hl0, ((k4.2.ex e4)).put ne⟩, ns ++ [L * y], L * y, _, _, rfl, ?_, hc.snoc y0, ?_, ?_⟩
      · rw [List.map_append]; exact upd_same
      · have a1 : L * y ≤ (5 * 100005 ^ i) * 100005 := Int.mul_le_mul hL y1 (by omega) (Int.mul_nonneg (by decide) (Int.pow_nonneg (by decide)))
        rw [Int.pow_succ, ← Int.mul_assoc]
        exact a1
      · rw [List.length_append, hn]; rfl
    · rintro _ H2 ⟨k3, ns, L, t, s, rfl, hl2, hc, hL, hn⟩
      have hL2 : L < 10 ^ 27 := Int.lt_of_le_of_lt hL (by
        have : n = 0 ∨ n = 1 ∨ n = 2 ∨ n = 3 ∨ n = 4 ∨ n = 5 := by omega
        rcases this with rfl | rfl | rfl | rfl | rfl | rfl <;> decide +kernel)
      exact Evl.s_retU (eu_tup_of (Evl.ev_var rfl) (SqL.of hl2)) (fun p H3 hp e3 h3 => q p ns L H3 (k3.to e3) (k3.2.ne hp) (SqT.of h3) (by omega) hc hL2)
theorem ok_gl (B : Bl mg) (D : Df K mg "_law_great_lot" s__law_great_lot ["dice", "sizes"]) (C__law_roll : Cg P w K mg base CX0 1 "_law_roll" spRoll) (C__law_great : Cg P w K mg base CX0 2 "_law_great" spGreat) : Cg P w K mg base CX0 3 "_law_great_lot" (spGl K) := by
  refine cg_of D sc__law_great_lot (fun vs H Q E h => ?_) (fun f cdv A fr s H vs Q E hr hgd h => ?_)
  · obtain ⟨d, p, ns, rfl, _⟩ := h
    rfl
  · obtain ⟨d, p, ns, rfl, ne, hd, hp, hl, hnd, q⟩ := h
    refine ⟨_, (pss_cons (ps_set (i := 2) sc__law_great_lot.nd rfl (by first | exact Or.inl rfl | exact Or.inr rfl) pe_dnewK)
    (pss_cons (ps_for PassesOwn.never rfl (pi_tup (pv 1)) (pg_name (i := 3) sc__law_great_lot.nd rfl (by first | exact Or.inl rfl | exact Or.inr rfl)) (pss_one (ps_if (pt_cmpR op_gt (pcg C__law_roll hr hgd (pa_cons (pv 0) (pa_cons pe_int pa_nil))) pe_int (nomark _)) (pss_one (ps_dput (hu_of hr) (pv 2) (pv 3) (pcg C__law_great hr hgd (pa_cons (pv 0) (pa_cons pe_int pa_nil))) rfl)) pss_nil)))
     (pss_one (ps_ret (pv 2))))), ?_⟩
    refine fun g ng => ?_
    have gd := hd.ne ng
    have e1 : Evl.Ex H (upd H g (.dK [])) := Evl.Ex.new ng
    have hg1 : upd H g (.dK []) g = some (.dK []) := upd_same
    have hd1 : Dice (upd H g (.dK [])) d := hd.new ng
    generalize upd H g (.dK []) = H1 at e1 hg1 hd1 ⊢
    refine ⟨.ref p, rfl, p, rfl, ⟨_, Evl.ex_t e1 hp⟩, ?_⟩
    refine for_it walk_tup (fun i σ H' => Kd d H H' ∧ ∃ (ps : List (Int × Int)) (t3 : Option V), σ = [some (.ref d), some (.ref p), some (.ref g), t3] ∧ H' g = some (.dK (ps.map kc)) ∧ (∀ x ∈ ps, x.1 ∈ ns.take i ∧ 0 < x.2 ∧ x.2 ≤ 10 ^ 31) ∧ (ps.map Prod.fst).Nodup ∧ ps.length ≤ i)
      ⟨Kd.ex hd e1, [], none, rfl, hg1, fun x hx => (nomatch hx), List.nodup_nil, Nat.le_refl _⟩ (fun i σ H' _ h => h.1.1.sqT ne hp) ?_ ?_
    · rintro i x σ H4 _ hi ⟨k4, ps, t3, rfl, hg4, f3, f4, f5⟩ ⟨rfl, hxi⟩
      rw [List.length_map] at hi
      rw [List.getElem?_map, List.getElem?_eq_getElem hi] at hxi
      obtain rfl := Option.some.inj hxi
      have st : ns.take (i + 1) = ns.take i ++ [ns[i]] := by rw [List.take_add_one, List.getElem?_eq_getElem hi]; rfl
      have nin : ns[i] ∉ ns.take i := fun m => by
        have z := hnd
        rw [← List.take_append_drop (i + 1) ns, st, List.nodup_append] at z
        exact (List.nodup_append.mp z.1).2.2 _ m _ (List.mem_singleton.mpr rfl) rfl
      generalize ns[i] = z at nin st
      refine ⟨.ref d, rfl, d, 5, rfl, by decide, by decide, k4.2, fun r H5 r0 r1 hd5 k5 => ⟨_, _, rfl, rfl, _, rfl, ?_⟩⟩
      have k45 := k4.trans (Kd.but hd5 k5)
      have hg5 : H5 g = some (.dK (ps.map kc)) := (k5 g gd).trans hg4
      refine if_b _ (fun rp => ?_) (fun rn => ?_)
      · have znk : z ∉ ps.map Prod.fst := fun m => by
          obtain ⟨x, hx, e⟩ := List.mem_map.mp m
          exact nin (e ▸ (f3 x hx).1)
        refine ⟨.ref d, rfl, d, 1, rfl, k45.2, fun c H6 c0 c1 k6 => ?_⟩
        have hg6 := k6.1 g _ gd hg5
        have k46 := k45.trans k6
        refine ⟨.ref g, rfl, .int z, rfl, g, _, rfl, DPut.k (k := Sum.inl z) hg6 (by rw [List.length_map, sizeLine_eq]; omega), ⟨Kp.mut k46.1 ng, k46.2.put gd⟩, ps ++ [(z, 1 + c)], _, rfl, by rw [upd_same, putK_new znk], fun x hx => ?_, ?_, by rw [List.length_append]; exact Nat.succ_le_succ f5⟩
        · rw [st]
          rcases List.mem_append.mp hx with m | m
          · exact ⟨List.mem_append_left _ (f3 x m).1, (f3 x m).2⟩
          · rw [List.mem_singleton.mp m]
            exact ⟨List.mem_append_right _ (List.mem_singleton.mpr rfl), by show 0 < 1 + c; omega, by show 1 + c ≤ _; omega⟩
        · rw [List.map_append, List.nodup_append]
          exact ⟨f4, List.nodup_cons.mpr ⟨List.not_mem_nil, List.nodup_nil⟩, fun a ha b hb => by cases List.mem_singleton.mp hb; exact fun e => znk (by rw [show z = a from e.symm]; exact ha)⟩
      · refine ⟨k45, ps, _, rfl, hg5, fun x hx => ?_, f4, Nat.le_succ_of_le f5⟩
        rw [st]
        exact ⟨List.mem_append_left _ (f3 x hx).1, (f3 x hx).2⟩
    · rintro _ H4 ⟨k4, ps, t3, rfl, hg4, f3, f4, f5⟩
      rw [List.length_map] at f3 f5
      exact ⟨.ref g, rfl, q g ps H4 k4 gd hg4 ⟨f4, fun x hx => ⟨List.mem_of_mem_take (f3 x hx).1, (f3 x hx).2⟩, f5⟩⟩
theorem ok_smtF (B : Bl mg) (D : Df K mg "_law_smaller_total" s__law_smaller_total ["plain", "size"]) : Cg P w K mg base CX0 1 "_law_smaller_total" spSmtF := by
  refine cg_of D sc__law_smaller_total (fun vs H Q E h => ?_) (fun f cdv A fr s H vs Q E hr hgd h => ?_)
  · obtain ⟨d, z, ps, rfl, _⟩ := h
    rfl
  · obtain ⟨d, z, ps, rfl, ⟨od, hd⟩, hc, q⟩ := h
    refine ⟨_, (pss_one (ps_ret (pe_callB (cr_sum rfl) (by rfl) B.sum bt_sum (pa_cons (nolock (pe_lc (own := [("other", 2)]) (g := (gName 2)) rfl sc__law_smaller_total.nd (pi_keys (pv 0)) (blkOk_by (own := [("other", 2)]) (N := n__law_smaller_total) (sc := defScope s__law_smaller_total) (by decide +kernel)) (fun _ _ _ _ _ => (pg_name (i := 2) sc__law_smaller_total.nd rfl (by first | exact Or.inl rfl | exact Or.inr rfl))) (fun _ _ _ _ _ => (pts_one (pt_cmpR op_lt (pv 2) (pv 1) (nomark _)))) (fun _ _ _ _ _ => (pe_op op_mulW (pv 2) (pe_dget (hu_of hr) (pv 0) (pv 2) (fun _ _ => rfl)))))) pa_nil)))), ?_⟩
    have ln := hc.ln
    refine Evl.s_ret (Evl.ev_is (ev_sum (K := K) (ns := (ps.filter fun p => decide (p.1 < z)).map fun p => p.1 * p.2) (Ck.el_is (el_lcKF (fun i => decide ((ps.getD i (0, 0)).1 < z)) (fun i => .int ((ps.getD i (0, 0)).1 * (ps.getD i (0, 0)).2)) (fun _ => Evl.ev_var rfl) hd (by rw [List.length_map]; omega) (fun _ => rfl) (fun i k x H1 hk _ => ?_) (fun i k x H1 hk hf _ => ?_)) ?_)) rfl) q
    · obtain ⟨p, hp, e, rfl, rfl⟩ := kc_at hk
      rw [e]
      exact Evl.et_test (ev_i0 (Evl.ev_var rfl) (Evl.ev_var rfl))
    · obtain ⟨p, hp, e, rfl, rfl⟩ := kc_at hk
      rw [e]
      obtain ⟨s1, s2⟩ := hc.ok p hp
      exact ev_i (g := fun i j => .int (i * j)) (Evl.ev_var rfl) (ev_dget (Evl.ev_var rfl) (Evl.ev_var rfl) (fun H2 e2 => .inr ⟨od, (hf.trans e2) _ _ hd⟩) ((cnt_mem hc.nd).mp hp)) (mul200 (siz_nat s1) (siz_nat s2))
    · rw [List.length_map]
      exact given_if ps (fun p => decide (p.1 < z)) fun p => p.1 * p.2
theorem ok_made (B : Bl mg) {CL : Addr} (D : Df K mg "_law_made_lot" s__law_made_lot ["plain"]) (M_Lot : Mkc P w K mg base 4 "Lot" CL (spLotI K CL)) : Cg P w K mg base CX0 6 "_law_made_lot" (spMade K CL) := by
  refine cg_of D sc__law_made_lot (fun vs H Q E h => ?_) (fun f cdv A fr s H vs Q E hr hgd h => ?_)
  · obtain ⟨d, ps, rfl, _⟩ := h
    rfl
  · obtain ⟨d, ps, rfl, hd, hc, q⟩ := h
    refine ⟨_, (pss_one (ps_ret (pmk M_Lot hr (pa_cons (pe_callTy (call_dictP rfl) (by rfl) B.dict bt_dict (pa_cons (pe_lock (pe_lc (own := [("size", 1)]) (g := (gName 1)) rfl sc__law_made_lot.nd (pi_keys (pv 0)) (blkOk_by (own := [("size", 1)]) (N := n__law_made_lot) (sc := defScope s__law_made_lot) (by decide +kernel)) (fun _ _ _ _ _ => (pg_name (i := 1) sc__law_made_lot.nd rfl (by first | exact Or.inl rfl | exact Or.inr rfl))) (fun _ _ _ _ _ => pts_nil) (fun _ _ _ _ _ => (pe_tup (pa_cons (pv 1) (pa_cons (pe_dget (hu_of hr) (pv 0) (pv 1) (fun _ _ => rfl)) pa_nil)))))) pa_nil)) pa_nil)))), ?_⟩
    have ln := hc.ln
    refine lot_make (K := K) (ps := ps) (fun Q' q' => dl_of (K := K) (lc_self (K := K) (fun _ => Evl.ev_var rfl) (fun _ _ => Evl.ev_var rfl) (fun _ => rfl) hd hc.nd (by omega) (fun _ => rfl)) hc.nd H (Evl.Ex.refl H) _ fun p H2 _ e2 h2 => q' p H2 e2 h2) hc _ (fun a qs H' e hp ha hl => q a qs H' e hp ha hl)
theorem ok_tot (B : Bl mg) (D : Df K mg "_law_total" s__law_total ["plain"]) : Cg P w K mg base CX0 1 "_law_total" spTot := by
  refine cg_of D sc__law_total (fun vs H Q E h => ?_) (fun f cdv A fr s H vs Q E hr hgd h => ?_)
  · obtain ⟨d, ps, rfl, _⟩ := h
    rfl
  · obtain ⟨d, ps, rfl, hd, hc, q⟩ := h
    refine ⟨_, (pss_one (ps_ret (pe_callB (cr_sum rfl) (by rfl) B.sum bt_sum (pa_cons (pe_lock (pe_lc (own := [("size", 1)]) (g := (gName 1)) rfl sc__law_total.nd (pi_keys (pv 0)) (blkOk_by (own := [("size", 1)]) (N := n__law_total) (sc := defScope s__law_total) (by decide +kernel)) (fun _ _ _ _ _ => (pg_name (i := 1) sc__law_total.nd rfl (by first | exact Or.inl rfl | exact Or.inr rfl))) (fun _ _ _ _ _ => pts_nil) (fun _ _ _ _ _ => (pe_op op_mulW (pv 1) (pe_dget (hu_of hr) (pv 0) (pv 1) (fun _ _ => rfl)))))) pa_nil)))), ?_⟩
    have ln := hc.ln
    refine Evl.s_ret (Evl.ev_is (ev_sum (K := K) (ns := (ps.filter fun _ => true).map fun p => p.1 * p.2) (Ck.el_is (el_lcK (fun _ => true) (fun i => .int ((ps.getD i (0, 0)).1 * (ps.getD i (0, 0)).2)) (fun _ => Evl.ev_var rfl) hd (by rw [List.length_map]; omega) (fun _ => rfl) (fun i k x H1 _ _ H2 _ Q q => q H2 (Evl.Ex.refl H2)) (fun i k x H1 hk hf _ => ?_)) ?_)) ?_) q
    · obtain ⟨p, hp, e, rfl, rfl⟩ := kc_at hk
      rw [e]
      obtain ⟨s1, s2⟩ := hc.ok p hp
      exact ev_i (g := fun i j => .int (i * j)) (Evl.ev_var rfl) (ev_dget (Evl.ev_var rfl) (Evl.ev_var rfl) (fun H2 e2 => (hf.to e2).dk) ((cnt_mem hc.nd).mp hp)) (mul200 (siz_nat s1) (siz_nat s2))
    · rw [List.length_map]
      exact given_if ps (fun _ => true) fun p => p.1 * p.2
    · rw [List.filter_eq_self.mpr fun _ _ => rfl]
      rfl

def spHasO (K : PySem.W.Frag) (C : Addr) : Sp := fun vs H Q _ => ∃ a x ps b, vs = [.ref a, x] ∧ LotAt K C H a ps ∧ Cts ps ∧ ((∃ i, x = .int i ∧ b = (cnt ps i).isSome) ∨ (OddI K H x ∧ b = false)) ∧ ∀ H', Evl.Ex H H' → Q (.bl b) H'
theorem ok_lothasO {CL : Addr} (LT_Lot : LotT K mg CL) (D : Dop K CL "__contains__" "Lot.__contains__" s_Lot_contains ["self", "x"]) (C_is_size : Cl P w K mg base 2 "is_size" (spNum K sizB)) : Og P w K mg base 3 CL "__contains__" ["self", "x"] (spHasO K CL) := by
  refine og_of LT_Lot.k.cl D sc_Lot_contains (fun vs H Q E h => ?_) (fun f cdv A fr s H vs Q E hr h => ?_)
  · obtain ⟨a, x, ps, b, rfl, _⟩ := h
    rfl
  · obtain ⟨a, x, ps, b, rfl, hl, hc, hx, q⟩ := h
    refine ⟨_, (pss_one (ps_ret (pe_and (pcal C_is_size hr (pa_cons (pv 1) pa_nil)) (pe_one (pe_cmp (pc_din (hu_of hr) (pv 1) (pe_fld (pv 0) rfl))))))), ?_⟩
    obtain ⟨dx, t1, t2, d, ts, h1, h2, h3, h4, h5⟩ := hl.ex
    rcases hx with ⟨i, rfl, rfl⟩ | ⟨ho, rfl⟩
    · refine Evl.s_ret (Evl.ev_is (Evl.ev_andV (a := sizB i) (b := (cnt ps i).isSome) (ev_call1 (Evl.ev_var rfl) num_i) (fun _ => ev_din (ev_fldL (Evl.ev_var rfl) h1 LT_Lot.k.cl LT_Lot.n3 (lot_counts t1 t2 d)) (Evl.ev_var rfl) h5)) ?_) q
      cases hi : sizB i with
      | true => rfl
      | false =>
        cases hn : cnt ps i with
        | none => rfl
        | some m =>
          have := (hc.ok _ ((cnt_mem hc.nd).mpr hn)).1
          rw [hi] at this
          cases this
    · exact Evl.s_ret (Evl.ev_is (Evl.ev_andV (b := true) (ev_call1 (Evl.ev_var rfl) (num_o ho)) (fun z => nomatch z)) rfl) q
theorem et_hasOi {CL a : Addr} {tx te : TE} {σ : L2.St} {H : Hp} {ps : List (Int × Int)} {i : Int} (hx : Evl.Ev tx σ H (.int i)) (h : Evl.Ev te σ H (.ref a)) (hl : LotAt K CL H a ps) (hc : Cts ps) :
    Evl.Ev (tOp (fun x y H Q => ∃ a dx fs, y = .ref a ∧ H a = some (.ins CL dx fs) ∧ spHasO K CL [.ref a, x] H (isB Q) E0) tx te) σ H (.bl (cnt ps i).isSome) := fun H1 e Q q => hx H1 e _ fun H2 e2 => h H2 (e.trans e2) _ fun H3 e3 => by
  have hl3 := hl.up ((e.trans e2).trans e3)
  obtain ⟨dx, t1, t2, d, ts, h1, _⟩ := hl3.ex
  exact ⟨a, dx, _, rfl, h1, a, _, ps, _, rfl, hl3, hc, .inl ⟨i, rfl, rfl⟩, fun H4 e4 => ⟨_, rfl, q H4 ((e2.trans e3).trans e4)⟩⟩
theorem et_hasOo {CL a : Addr} {tx te : TE} {σ : L2.St} {H : Hp} {ps : List (Int × Int)} {x : V} (hx : Evl.Ev tx σ H x) (ho : OddI K H x) (h : Evl.Ev te σ H (.ref a)) (hl : LotAt K CL H a ps) (hc : Cts ps) :
    Evl.Ev (tOp (fun x y H Q => ∃ a dx fs, y = .ref a ∧ H a = some (.ins CL dx fs) ∧ spHasO K CL [.ref a, x] H (isB Q) E0) tx te) σ H (.bl false) := fun H1 e Q q => hx H1 e _ fun H2 e2 => h H2 (e.trans e2) _ fun H3 e3 => by
  have hl3 := hl.up ((e.trans e2).trans e3)
  obtain ⟨dx, t1, t2, d, ts, h1, _⟩ := hl3.ex
  exact ⟨a, dx, _, rfl, h1, a, _, ps, _, rfl, hl3, hc, .inr ⟨OddI.lasts _ _ _ ((e.trans e2).trans e3) ho, rfl⟩, fun H4 e4 => ⟨_, rfl, q H4 ((e2.trans e3).trans e4)⟩⟩
def spOne (K : PySem.W.Frag) (CL : Addr) : Sp := fun vs H Q _ => ∃ a c qs X, vs = [.ref a, .ref c] ∧ LotAt K CL H a qs ∧ LotC qs ∧ LotAt K CL H c X ∧ Cts X ∧ ∀ o H', Evl.Ex H H' → LotAt K CL H' o (prt 0 0 (numR X + 1) qs) → Q (.ref o) H'
theorem etp_items {te : TE} {σ : L2.St} {H : Hp} {qs : List (Int × Int)} (h : EvR RD te σ H qs) : Etp K (tTupItems te) σ H qs := fun H1 e Q q => h H1 e _ fun v H2 e2 ⟨p, hv, hp⟩ => ⟨p, _, hv, .inl hp, fun H' t ts e3 nt _ ht hr => q t _ H' (e2.trans e3) (SqT.of ht) (f2_of_paired hr)⟩
theorem ezp_prtE {ta tf tl : TE} {σ : L2.St} {H : Hp} {rs : List (Int × Int)} {f l : Int} (ha : Etp K ta σ H rs) (hf : Evl.Ev tf σ H (.int f)) (hl : Evl.Ev tl σ H (.int l)) (ln : rs.length ≤ 2000) : Ezp K (tCall (spPrt K) [] E0 (tCons ta (tCons tf (tCons tl tNil)))) σ H (prt 0 f l rs) := fun H1 e Q q => ha H1 e _ fun t xs H2 e2 ht hx => hf H2 (e.trans e2) _ fun H3 e3 => hl H3 (e.trans (e2.trans e3)) _ fun H4 e4 =>
  ⟨t, xs, rs, f, l, rfl, Evl.ex_t (e3.trans e4) ht, hx.imp fun x b r => r.ex (e3.trans e4), ln, fun p ys H5 e5 hp hy => q p ys H5 (e2.trans (e3.trans (e4.trans e5))) hp hy⟩
theorem ok_onemore {CL : Addr} (B : Bl mg) (LT_Lot : LotT K mg CL) (D : Df K mg "_one_more" s__one_more ["lot", "part"]) (C_part_of_runs : Cl P w K mg base 1 "part_of_runs" (spPrt K)) (P_counts : Pg P w K mg base 1 CL "counts" (spCounts K CL)) (P_number : Pg P w K mg base 2 CL "number" (spLNum K CL)) (M_Lot : Mkc P w K mg base 4 "Lot" CL (spLotI K CL)) : Cg P w K mg base CX0 6 "_one_more" (spOne K CL) := by
  refine cg_of D sc__one_more (fun vs H Q E h => ?_) (fun f cdv A fr s H vs Q E hr hgd h => ?_)
  · obtain ⟨a, c, qs, X, rfl, _⟩ := h
    rfl
  · obtain ⟨a, c, qs, X, rfl, hl, hc, hx, cx, q⟩ := h
    refine ⟨_, (pss_one (ps_ret (pmk M_Lot hr (pa_cons (pe_callTy (call_dictZ rfl) (by rfl) B.dict bt_dict (pa_cons (pcg (Cl.g C_part_of_runs) hr hgd (pa_cons (pe_tupItems rfl (pprop P_counts hr (pv 0)) (by rfl) B.tuple) (pa_cons pe_int (pa_cons (pe_op op_add (pprop P_number hr (pv 1)) pe_int) pa_nil)))) pa_nil)) pa_nil)))), ?_⟩
    have n0 : 0 ≤ numR X := numR_nn fun r hr => (siz_int (cx.ok r hr).2).1
    have ln := hc.ct.ln
    have lx := cx.ln
    exact elot_mk (K := K) (ps := prt 0 0 (numR X + 1) qs) (dz_ezp (ezp_prtE (K := K) (etp_items (evr_counts (elot_v (Evl.ev_var rfl) hl))) Evl.ev_c (ev_i0 (g := fun i j => V.int (i + j)) (ev_lnum (K := K) (Evl.ev_var rfl) hx (by omega)) Evl.ev_c) (by omega)) (prt_cts 0 hc.ct (by omega)).nd) (prt_cts 0 hc.ct (by omega)) (prt_asc 0 hc.asc) H (Evl.Ex.refl _) _ (fun o H3 e3 ho => q o H3 e3 ho)
inductive PapV (K : PySem.W.Frag) (CL : Addr) (H : Hp) (qs ss : List (Int × Int)) : V → Option (List (Int × Int) × Option Int) → Prop
  | odd {v : V} {tt : Value} (h : ∀ H', Evl.Ex H H' → TyX K H' v tt) (k : PySem.W.kitOne K tt (.type "tuple") = some false) : PapV K CL H qs ss v none
  | len {t : Addr} {xs : List V} (h : SqT K H t xs) (l : xs.length ≠ 2) : PapV K CL H qs ss (.ref t) none
  | oth {t : Addr} {x y : V} {tt : Value} (h : SqT K H t [x, y]) (hx : ∀ H', Evl.Ex H H' → TyX K H' x tt) (k : PySem.W.kitOne K tt (.ref CL) = some false) : PapV K CL H qs ss (.ref t) none
  | unfit {t o : Addr} {y : V} {os : List (Int × Int)} (h : SqT K H t [.ref o, y]) (l : LotAt K CL H o os) (c : LotC os) (f : (partB os qs && fitB os ss) = false) : PapV K CL H qs ss (.ref t) none
  | bad {t o : Addr} {y : V} (h : SqT K H t [.ref o, y]) (l : LotAt K CL H o qs) (f : fitB qs ss = true) (n : y ≠ .non) : PapV K CL H qs ss (.ref t) none
  | out {t o : Addr} {y : V} {os : List (Int × Int)} (h : SqT K H t [.ref o, y]) (l : LotAt K CL H o os) (c : LotC os) (p : partB os qs = true) (f : fitB os ss = true) (n : os ≠ qs) (m : OddI K H y ∨ ∃ i, y = .int i ∧ cnt qs i = none) : PapV K CL H qs ss (.ref t) none
  | all {t o : Addr} (h : SqT K H t [.ref o, .non]) (l : LotAt K CL H o qs) (f : fitB qs ss = true) : PapV K CL H qs ss (.ref t) (some (qs, none))
  | one {t o : Addr} {i : Int} {os : List (Int × Int)} (h : SqT K H t [.ref o, .int i]) (l : LotAt K CL H o os) (c : LotC os) (p : partB os qs = true) (f : fitB os ss = true) (n : os ≠ qs) (m : (cnt qs i).isSome = true) : PapV K CL H qs ss (.ref t) (some (os, some i))
theorem PapV.up {CL : Addr} {H H' : Hp} {qs ss : List (Int × Int)} {v : V} {r : Option (List (Int × Int) × Option Int)} (e : Evl.Ex H H') (h : PapV K CL H qs ss v r) : PapV K CL H' qs ss v r := by
  cases h with
  | odd h k => exact .odd (fun H2 e2 => h H2 (e.trans e2)) k
  | len h l => exact .len (Evl.ex_t e h) l
  | oth h hx k => exact .oth (Evl.ex_t e h) (fun H2 e2 => hx H2 (e.trans e2)) k
  | unfit h l c f => exact .unfit (Evl.ex_t e h) (l.up e) c f
  | bad h l f n => exact .bad (Evl.ex_t e h) (l.up e) f n
  | out h l c p f n m => exact .out (Evl.ex_t e h) (l.up e) c p f n (m.imp (OddI.lasts _ _ _ e) id)
  | all h l f => exact .all (Evl.ex_t e h) (l.up e) f
  | one h l c p f n m => exact .one (Evl.ex_t e h) (l.up e) c p f n m
theorem eqP_lot {os qs : List (Int × Int)} (a : LotC os) (b : LotC qs) : eqP os qs = decide (os = qs) := by
  refine bool_iff ?_
  rw [decide_eq_true_eq, eqP_iff a.ct.nd b.ct.nd]
  exact ⟨fun h => asc_unique a.asc b.asc h, fun h => h ▸ List.Perm.refl _⟩
theorem part_self {qs : List (Int × Int)} (h : LotC qs) : partB qs qs = true := by
  unfold partB
  refine List.all_eq_true.mpr fun q hq => decide_eq_true ?_
  rw [(cnt_mem h.ct.nd).mp (show (q.1, q.2) ∈ qs from hq)]
  exact Int.le_refl _
def spPap (K : PySem.W.Frag) (CL CS : Addr) : Sp := fun vs H Q _ => ∃ a b v qs ss r, vs = [.ref a, .ref b, v] ∧ LotAt K CL H a qs ∧ LotC qs ∧ StoAt K CS H b ss ∧ StoOk ss ∧ PapV K CL H qs ss v r ∧ ∀ H', Evl.Ex H H' → Q (.bl r.isSome) H'
def spFitA (K : PySem.W.Frag) (CL CS : Addr) : Sp := fun vs H Q _ => ∃ a b v qs rs r, vs = [.ref a, .ref b, v] ∧ LotAt K CL H a qs ∧ StoAt K CS H b rs ∧ StoOk rs ∧ ((∃ c os, v = .ref c ∧ LotAt K CL H c os ∧ LotC os ∧ r = (partB os qs && fitB os rs)) ∨ (∃ tt, (∀ H', Evl.Ex H H' → TyX K H' v tt) ∧ PySem.W.kitOne K tt (.ref CL) = some false ∧ r = false)) ∧ ∀ H', Evl.Ex H H' → Q (.bl r) H'
theorem ok_fitA {CL CS : Addr} (B : Bl mg) (LT_Lot : LotT K mg CL) (D : Df K mg "_is_fitting_part" s__is_fitting_part ["lot", "store", "value"]) (O_Lot_is_part_of : Og P w K mg base 6 CL "is_part_of" ["self", "value"] (spPartOf K CL)) (C_fits : Cg P w K mg base CX0 7 "fits" (spFits K CL CS)) : Cg P w K mg base CX0 8 "_is_fitting_part" (spFitA K CL CS) := by
  refine cg_of D sc__is_fitting_part (fun vs H Q E h => ?_) (fun f cdv A fr s H vs Q E hr hgd h => ?_)
  · obtain ⟨a, b, v, qs, rs, r, rfl, _⟩ := h
    rfl
  · obtain ⟨a, b, v, qs, rs, r, rfl, hl, hs, ho, hv, q⟩ := h
    refine ⟨_, (pss_one (ps_ret (pe_and (pe_callB call_isi (by rfl) B.isinstance bt_isinstance (pa_cons (pv 2) (pa_cons (pe_glob (v := V.ref _) (by rfl) LT_Lot.k.g rfl) pa_nil))) (pe_and (pmeth O_Lot_is_part_of hr (pv 2) (pa_cons (pv 0) pa_nil)) (pe_one (pcg C_fits hr hgd (pa_cons (pv 2) (pa_cons (pv 1) pa_nil)))))))), ?_⟩
    rcases hv with ⟨c, os, rfl, hv, hc, rfl⟩ | ⟨tt, ty, hk, rfl⟩
    · obtain ⟨dx, t1, t2, d, ts, h1, _⟩ := hv.ex
      refine Evl.s_ret (Evl.ev_is (Evl.ev_andV (a := true) (b := partB os qs && fitB os rs) (ev_isi (Evl.ev_var rfl) Evl.ev_c (.own CL) (fun H1 e => LT_Lot.k.ty (e _ _ h1)) kit_self) (fun _ => Evl.ev_andV (fun H1 e1 Q1 q1 => ?_) (fun _ => fits_e (K := K) (elot_v (Evl.ev_var rfl) hv) (esto_v (Evl.ev_var rfl) hs) hc ho))) rfl) q
      exact ⟨.ref c, rfl, c, dx, _, rfl, e1 _ _ h1, lot_meth t1 t2 d, .ref a, rfl, c, a, os, qs, rfl, hv.up e1, hl.up e1, hc.ct, fun H2 e2 => q1 H2 e2⟩
    · exact Evl.s_ret (Evl.ev_is (Evl.ev_andV (a := false) (b := true) (ev_isi (Evl.ev_var rfl) Evl.ev_c (.own CL) ty hk) (fun z => nomatch z)) rfl) q
theorem ev_lotEq {CL a b : Addr} {ta tb : TE} {σ : L2.St} {H : Hp} {ps qs : List (Int × Int)} (ha : Evl.Ev ta σ H (.ref a)) (hb : Evl.Ev tb σ H (.ref b)) (la : LotAt K CL H a ps) (lb : LotAt K CL H b qs) :
    Evl.Ev (tOp (fun x y H Q => ∃ a b dx dy fs gs, x = V.ref a ∧ y = .ref b ∧ H a = some (.ins CL dx fs) ∧ H b = some (.ins CL dy gs) ∧ spLotEq K CL [.ref a, .ref b] H (isB Q) E0) ta tb) σ H (.bl (eqP ps qs)) := fun H1 e Q q => ha H1 e _ fun H2 e2 => hb H2 (e.trans e2) _ fun H3 e3 => by
  have E3 := e.trans (e2.trans e3)
  obtain ⟨dx, t1, t2, d, ts, h1, _⟩ := (la.up E3).ex
  obtain ⟨dy, u1, u2, d', us, h2, _⟩ := (lb.up E3).ex
  exact ⟨a, b, dx, dy, _, _, rfl, rfl, h1, h2, a, b, ps, qs, rfl, la.up E3, lb.up E3, fun H4 e4 => ⟨_, rfl, q H4 (e2.trans (e3.trans e4))⟩⟩
theorem fitA_e {CL CS a b c : Addr} {ta tb tx : TE} {σ : L2.St} {H : Hp} {qs rs os : List (Int × Int)} (ha : Evl.Ev ta σ H (.ref a)) (hb : Evl.Ev tb σ H (.ref b)) (hx : Evl.Ev tx σ H (.ref c)) (la : LotAt K CL H a qs) (lb : StoAt K CS H b rs) (ho : StoOk rs) (lc : LotAt K CL H c os) (co : LotC os) : Evl.Ev (tCall (spFitA K CL CS) [] E0 (tCons ta (tCons tb (tCons tx tNil)))) σ H (.bl (partB os qs && fitB os rs)) := fun H1 e Q q => ha H1 e _ fun H2 e2 => hb H2 (e.trans e2) _ fun H3 e3 => hx H3 (e.trans (e2.trans e3)) _ fun H4 e4 => by
  have E4 := e.trans (e2.trans (e3.trans e4))
  exact ⟨a, b, _, qs, rs, _, rfl, la.up E4, lb.up E4, ho, .inl ⟨c, os, rfl, lc.up E4, co, rfl⟩, fun H5 e5 => q H5 (e2.trans (e3.trans (e4.trans e5)))⟩
theorem fitA_o {CL CS a b : Addr} {ta tb tx : TE} {σ : L2.St} {H : Hp} {qs rs : List (Int × Int)} {x : V} {tt : Value} (ha : Evl.Ev ta σ H (.ref a)) (hb : Evl.Ev tb σ H (.ref b)) (hx : Evl.Ev tx σ H x) (la : LotAt K CL H a qs) (lb : StoAt K CS H b rs) (ho : StoOk rs) (ty : ∀ H', Evl.Ex H H' → TyX K H' x tt) (hk : PySem.W.kitOne K tt (.ref CL) = some false) : Evl.Ev (tCall (spFitA K CL CS) [] E0 (tCons ta (tCons tb (tCons tx tNil)))) σ H (.bl false) := fun H1 e Q q => ha H1 e _ fun H2 e2 => hb H2 (e.trans e2) _ fun H3 e3 => hx H3 (e.trans (e2.trans e3)) _ fun H4 e4 => by
  have E4 := e.trans (e2.trans (e3.trans e4))
  exact ⟨a, b, _, qs, rs, _, rfl, la.up E4, lb.up E4, ho, .inr ⟨tt, fun H' e' => ty H' (E4.trans e'), hk, rfl⟩, fun H5 e5 => q H5 (e2.trans (e3.trans (e4.trans e5)))⟩
theorem atI_1 (x y : V) (xs : List V) : atI (x :: y :: xs) 1 = some y := atI_nat (xs := x :: y :: xs) (j := 1) rfl
theorem paper_t {CL CS a b t o : Addr} {ta tb tv : TE} {σ : L2.St} {H : Hp} {y : V} {qs rs os : List (Int × Int)} (ha : Evl.Ev ta σ H (.ref a)) (hb : Evl.Ev tb σ H (.ref b)) (hv : Evl.Ev tv σ H (.ref t)) (la : LotAt K CL H a qs) (lb : StoAt K CS H b rs) (ho : StoOk rs) (h : SqT K H t [.ref o, y]) (lc : LotAt K CL H o os) (co : LotC os) (f : (partB os qs && fitB os rs) = true) :
    Evl.EvT (tOr (tNot (tB (tCB (rIsi K) (tCons tv (tCons (tC (.ty "tuple")) tNil))))) (tOr (tTest (tOp rNe (tCB (fun xs H Q => ∃ p ys, xs = [V.ref p] ∧ (SqL K H p ys ∨ SqT K H p ys) ∧ Q (.int ys.length) H) (tCons tv tNil)) (tC (.int 2)))) (tNot (tB (tCall (spFitA K CL CS) [] E0 (tCons ta (tCons tb (tCons (tOp (rIxT K) tv (tC (.int 0))) tNil)))))))) σ H false :=
  Evl.et_is (Evl.et_or (a := false) (b := false) (Evl.et_not (Evl.et_B (b := true) (ev_isi hv Evl.ev_c (.ty _) (fun H2 e => ty_tup (Evl.ex_t e h)) (kit_ty (r := true) (by decide +kernel))))) (fun _ => Evl.et_is (Evl.et_or (a := false) (b := false) (Evl.et_test (ev_ne (ev_lenT hv h) Evl.ev_c rfl)) (fun _ => Evl.et_is (Evl.et_not (Evl.et_B (fitA_e ha hb (ev_ixT hv Evl.ev_c h (atI_0 _ _)) la lb ho lc co))) (by rw [f]; rfl))) rfl)) rfl
theorem ok_ispap {CL CS : Addr} (B : Bl mg) (LT_Lot : LotT K mg CL) (D : Df K mg "_is_part_paper" s__is_part_paper ["lot", "store", "value"]) (C__is_fitting_part : Cg P w K mg base CX0 8 "_is_fitting_part" (spFitA K CL CS)) (O_Lot_eq : Og P w K mg base 1 CL "__eq__" ["self", "other"] (spLotEq K CL)) (O_Lot_contains : Og P w K mg base 3 CL "__contains__" ["self", "x"] (spHasO K CL)) : Cg P w K mg base CX0 9 "_is_part_paper" (spPap K CL CS) := by
  refine cg_of D sc__is_part_paper (fun vs H Q E h => ?_) (fun f cdv A fr s H vs Q E hr hgd h => ?_)
  · obtain ⟨a, b, v, qs, ss, r, rfl, _⟩ := h
    rfl
  · obtain ⟨a, b, v, qs, ss, r, rfl, hl, hc, hs, ho, hv, q⟩ := h
    refine ⟨_, (pss_cons (ps_if (pw_or (pt_not (pt_val (pe_callB call_isi (by rfl) B.isinstance bt_isinstance (pa_cons (pv 2) (pa_cons (pe_bltn (v := V.ty "tuple") (by rfl) B.tuple bt_tuple rfl) pa_nil))))) (pw_or (pt_cmpR op_ne (pe_callB call_len_seq (by rfl) B.len bt_len (pa_cons (pv 2) pa_nil)) pe_int (nomark _)) (pw_or1 (pt_not (pt_val (pcg C__is_fitting_part hr hgd (pa_cons (pv 0) (pa_cons (pv 1) (pa_cons (pe_ix ix_tup (pv 2) pe_int (fun _ _ => rfl)) pa_nil))))))))).pt (pss_one (ps_ret pe_bl)) pss_nil)
    (pss_one (ps_ret (pe_ifExp (pt_cmpR (oeqO O_Lot_eq hr) (pe_ix ix_tup (pv 2) pe_int (fun _ _ => rfl)) (pv 0) (nomark _)) (pe_cmpR op_isN (pe_ix ix_tup (pv 2) pe_int (fun _ _ => rfl)) pe_non (nomark _)) (pe_cmpR (oinO O_Lot_contains hr) (pe_ix ix_tup (pv 2) pe_int (fun _ _ => rfl)) (pv 0) (by with_unfolding_all rfl)))))), ?_⟩
    have tup : ∀ {t : Addr} {xs : List V}, SqT K H t xs → ∀ H1, Evl.Ex H H1 → TyX K H1 (.ref t) (.type "tuple") := fun h H1 e => ty_tup (Evl.ex_t e h)
    cases hv with
    | odd h k =>
      exact Evl.q_when (b := true) (Evl.et_is (Evl.et_or (b := true) (Evl.et_not (Evl.et_B (ev_isi (Evl.ev_var rfl) Evl.ev_c (.ty _) h k))) (fun z => nomatch z)) rfl) (fun _ H2 e2 => q H2 e2) (fun z => nomatch z)
    | len h l =>
      exact Evl.q_when (b := true) (Evl.et_is (Evl.et_or (b := true) (Evl.et_not (Evl.et_B (ev_isi (Evl.ev_var rfl) Evl.ev_c (.ty _) (tup h) (kit_ty (r := true) (by decide +kernel))))) (fun _ => Evl.et_is (Evl.et_or (b := true) (Evl.et_test (ev_ne (ev_lenT (Evl.ev_var rfl) h) Evl.ev_c rfl)) (fun z => absurd z (by rw [decide_eq_false (fun z => l (by have z := V.int.inj z; omega))]; decide))) (by rw [decide_eq_false (fun z => l (by have z := V.int.inj z; omega))]; rfl))) rfl) (fun _ H2 e2 => q H2 e2) (fun z => nomatch z)
    | oth h hx k =>
      exact Evl.q_when (b := true) (Evl.et_is (Evl.et_or (b := true) (Evl.et_not (Evl.et_B (ev_isi (Evl.ev_var rfl) Evl.ev_c (.ty _) (tup h) (kit_ty (r := true) (by decide +kernel))))) (fun _ => Evl.et_is (Evl.et_or (b := true) (Evl.et_test (ev_ne (ev_lenT (Evl.ev_var rfl) h) Evl.ev_c rfl)) (fun _ => Evl.et_not (Evl.et_B (fitA_o (Evl.ev_var rfl) (Evl.ev_var rfl) (ev_ixT (Evl.ev_var rfl) Evl.ev_c h (atI_0 _ _)) hl hs ho hx k)))) rfl)) rfl) (fun _ H2 e2 => q H2 e2) (fun z => nomatch z)
    | unfit h l c ff =>
      exact Evl.q_when (b := true) (Evl.et_is (Evl.et_or (b := true) (Evl.et_not (Evl.et_B (ev_isi (Evl.ev_var rfl) Evl.ev_c (.ty _) (tup h) (kit_ty (r := true) (by decide +kernel))))) (fun _ => Evl.et_is (Evl.et_or (b := true) (Evl.et_test (ev_ne (ev_lenT (Evl.ev_var rfl) h) Evl.ev_c rfl)) (fun _ => Evl.et_is (Evl.et_not (Evl.et_B (fitA_e (Evl.ev_var rfl) (Evl.ev_var rfl) (ev_ixT (Evl.ev_var rfl) Evl.ev_c h (atI_0 _ _)) hl hs ho l c))) (by rw [ff]; rfl))) rfl)) rfl) (fun _ H2 e2 => q H2 e2) (fun z => nomatch z)
    | @bad t o y h l ff n =>
      refine Evl.q_when (b := false) (paper_t (Evl.ev_var rfl) (Evl.ev_var rfl) (Evl.ev_var rfl) hl hs ho h l hc (by rw [part_self hc, ff]; rfl)) (fun z => nomatch z) (fun _ H2 e2 => ?_)
      exact Evl.s_ret (Evl.ev_if (b := true) (Evl.et_is (Evl.et_test (ev_lotEq (ev_ixT (Evl.ev_var rfl) Evl.ev_c (Evl.ex_t e2 h) (atI_0 _ _)) (Evl.ev_var rfl) (l.up e2) (hl.up e2))) (by rw [eqP_lot hc hc]; exact decide_eq_true rfl)) (fun _ => Evl.ev_is (ev_isN (ev_ixT (Evl.ev_var rfl) Evl.ev_c (Evl.ex_t e2 h) (atI_1 _ _ _))) (congrArg V.bl (decide_eq_false n))) (fun z => nomatch z)) (fun H3 e3 => q H3 (e2.trans e3))
    | @out t o y os h l c pp ff n m =>
      refine Evl.q_when (b := false) (paper_t (Evl.ev_var rfl) (Evl.ev_var rfl) (Evl.ev_var rfl) hl hs ho h l c (by rw [pp, ff]; rfl)) (fun z => nomatch z) (fun _ H2 e2 => ?_)
      refine Evl.s_ret (Evl.ev_if (b := false) (Evl.et_is (Evl.et_test (ev_lotEq (ev_ixT (Evl.ev_var rfl) Evl.ev_c (Evl.ex_t e2 h) (atI_0 _ _)) (Evl.ev_var rfl) (l.up e2) (hl.up e2))) (by rw [eqP_lot c hc]; exact decide_eq_false n)) (fun z => nomatch z) (fun _ => ?_)) (fun H3 e3 => q H3 (e2.trans e3))
      rcases m with m | ⟨i, rfl, m⟩
      · exact et_hasOo (ev_ixT (Evl.ev_var rfl) Evl.ev_c (Evl.ex_t e2 h) (atI_1 _ _ _)) (OddI.lasts _ _ _ e2 m) (Evl.ev_var rfl) (hl.up e2) hc.ct
      · exact Evl.ev_is (et_hasOi (ev_ixT (Evl.ev_var rfl) Evl.ev_c (Evl.ex_t e2 h) (atI_1 _ _ _)) (Evl.ev_var rfl) (hl.up e2) hc.ct) (by rw [m]; rfl)
    | @all t o h l ff =>
      refine Evl.q_when (b := false) (paper_t (Evl.ev_var rfl) (Evl.ev_var rfl) (Evl.ev_var rfl) hl hs ho h l hc (by rw [part_self hc, ff]; rfl)) (fun z => nomatch z) (fun _ H2 e2 => ?_)
      exact Evl.s_ret (Evl.ev_if (b := true) (Evl.et_is (Evl.et_test (ev_lotEq (ev_ixT (Evl.ev_var rfl) Evl.ev_c (Evl.ex_t e2 h) (atI_0 _ _)) (Evl.ev_var rfl) (l.up e2) (hl.up e2))) (by rw [eqP_lot hc hc]; exact decide_eq_true rfl)) (fun _ => Evl.ev_is (ev_isN (ev_ixT (Evl.ev_var rfl) Evl.ev_c (Evl.ex_t e2 h) (atI_1 _ _ _))) (congrArg V.bl (decide_eq_true rfl))) (fun z => nomatch z)) (fun H3 e3 => q H3 (e2.trans e3))
    | @one t o i os h l c pp ff n m =>
      refine Evl.q_when (b := false) (paper_t (Evl.ev_var rfl) (Evl.ev_var rfl) (Evl.ev_var rfl) hl hs ho h l c (by rw [pp, ff]; rfl)) (fun z => nomatch z) (fun _ H2 e2 => ?_)
      exact Evl.s_ret (Evl.ev_if (b := false) (Evl.et_is (Evl.et_test (ev_lotEq (ev_ixT (Evl.ev_var rfl) Evl.ev_c (Evl.ex_t e2 h) (atI_0 _ _)) (Evl.ev_var rfl) (l.up e2) (hl.up e2))) (by rw [eqP_lot c hc]; exact decide_eq_false n)) (fun z => nomatch z) (fun _ => Evl.ev_is (et_hasOi (ev_ixT (Evl.ev_var rfl) Evl.ev_c (Evl.ex_t e2 h) (atI_1 _ _ _)) (Evl.ev_var rfl) (hl.up e2) hc.ct) (by rw [m]; rfl))) (fun H3 e3 => q H3 (e2.trans e3))
def isT (qs ss : List (Int × Int)) : Option (List (Int × Int) × Option Int) → Bool
  | none => false
  | some (_, none) => true
  | some (os, some i) => decide (i ∈ brs (prt 0 0 (numR os + 1) qs) ss)
def isW (qs ss : List (Int × Int)) : Option (List (Int × Int) × Option Int) → Bool
  | none => false
  | some (_, none) => true
  | some (os, some i) => decide (tot os = i * unt ss i + smt qs i)
def spIsT (K : PySem.W.Frag) (CL CS : Addr) (f : List (Int × Int) → List (Int × Int) → Option (List (Int × Int) × Option Int) → Bool) : Sp := fun vs H Q _ => ∃ a b v qs ss r, vs = [.ref a, .ref b, v] ∧ LotAt K CL H a qs ∧ LotC qs ∧ StoAt K CS H b ss ∧ StoOk ss ∧ PapV K CL H qs ss v r ∧ ∀ H', Evl.Ex H H' → Q (.bl (f qs ss r)) H'
theorem pap_v {CL CS a b : Addr} {v : V} {H : Hp} {qs ss : List (Int × Int)} {r : Option (List (Int × Int) × Option Int)} (hl : LotAt K CL H a qs) (hc : LotC qs) (hs : StoAt K CS H b ss) (ho : StoOk ss) (hv : PapV K CL H qs ss v r) : Evl.SpV (spPap K CL CS) [.ref a, .ref b, v] H (.bl r.isSome) := fun H1 e Q q E => ⟨a, b, v, qs, ss, r, rfl, hl.up e, hc, hs.up e, ho, hv.up e, q⟩
theorem elot_one {CL a : Addr} {ta tb : TE} {σ : L2.St} {H : Hp} {qs X : List (Int × Int)} (ha : Evl.Ev ta σ H (.ref a)) (la : LotAt K CL H a qs) (hc : LotC qs) (hb : Elot K CL tb σ H X) (cx : Cts X) : Elot K CL (tCall (spOne K CL) [] E0 (tCons ta (tCons tb tNil))) σ H (prt 0 0 (numR X + 1) qs) := fun H1 e Q q => ha H1 e _ fun H2 e2 => hb H2 (e.trans e2) _ fun c H3 e3 hx =>
  ⟨a, c, qs, X, rfl, la.up (e.trans (e2.trans e3)), hc, hx, cx, fun o H4 e4 ho => q o H4 (e2.trans (e3.trans e4)) ho⟩
theorem etu_brs {CL CS : Addr} {ta tb : TE} {σ : L2.St} {H : Hp} {ps rs : List (Int × Int)} (ha : Elot K CL ta σ H ps) (hb : Esto K CS tb σ H rs) (hc : LotC ps) (ho : StoOk rs) : Etu K (tCall (spBrs K CL CS) [] E0 (tCons ta (tCons tb tNil))) σ H ((brs ps rs).map V.int) := fun H1 e Q q => ha H1 e _ fun a H2 e2 hl => hb H2 (e.trans e2) _ fun b H3 e3 hs =>
  ⟨a, b, ps, rs, rfl, hl.up e3, hc, hs, ho, fun t H4 e4 ht => q t H4 ((e2.trans e3).trans e4) ht⟩
theorem ev_inEt {ta tb : TE} {σ : L2.St} {H : Hp} {i : Int} {ns : List Int} (ha : Evl.Ev ta σ H (.int i)) (hb : Etu K tb σ H (ns.map V.int)) : Evl.Ev (tOp (rIn K false) ta tb) σ H (.bl (decide (i ∈ ns))) := fun H1 e Q q => ha H1 e _ fun H2 e2 => hb H2 (e.trans e2) _ fun t H3 e3 ht =>
  ev_inTI (K := K) (ta := fun σ H Q => Q (.int i) H) (tb := fun σ H Q => Q (.ref t) H) (σ := []) (H := H3) (fun H5 e5 Q5 q5 => q5 H5 (Evl.Ex.refl _)) (fun H5 e5 Q5 q5 => q5 H5 (Evl.Ex.refl _)) ht H3 (Evl.Ex.refl _) Q (fun H4 e4 => q H4 (e2.trans (e3.trans e4)))
theorem ok_isT {CL CS : Addr} (B : Bl mg) (D : Df K mg "is_things_paper" s_is_things_paper ["lot", "store", "value"]) (C_check_most : Cg P w K mg base CX0 3 "check_most" (spChkL K CL CS)) (C__is_part_paper : Cg P w K mg base CX0 9 "_is_part_paper" (spPap K CL CS)) (O_Lot_eq : Og P w K mg base 1 CL "__eq__" ["self", "other"] (spLotEq K CL)) (C_barring_sizes : Cg P w K mg base CX0 6 "barring_sizes" (spBrs K CL CS)) (C__one_more : Cg P w K mg base CX0 6 "_one_more" (spOne K CL)) : Cg P w K mg base CX0 10 "is_things_paper" (spIsT K CL CS isT) := by
  refine cg_of D sc_is_things_paper (fun vs H Q E h => ?_) (fun f cdv A fr s H vs Q E hr hgd h => ?_)
  · obtain ⟨a, b, v, qs, ss, r, rfl, _⟩ := h
    rfl
  · obtain ⟨a, b, v, qs, ss, r, rfl, hl, hc, hs, ho, hv, q⟩ := h
    refine ⟨_, (pss_cons (ps_expr (pcg C_check_most hr hgd (pa_cons (pv 0) (pa_cons (pv 1) pa_nil))))
    (pss_cons (ps_if (pt_not (pt_val (pcg C__is_part_paper hr hgd (pa_cons (pv 0) (pa_cons (pv 1) (pa_cons (pv 2) pa_nil)))))) (pss_one (ps_ret pe_bl)) pss_nil)
     (pss_cons (ps_asg (pv 2) (pg_tup (n := 2) rfl (pgs_cons (pg_name (i := 3) sc_is_things_paper.nd rfl (by first | exact Or.inl rfl | exact Or.inr rfl)) (pgs_cons (pg_name (i := 4) sc_is_things_paper.nd rfl (by first | exact Or.inl rfl | exact Or.inr rfl)) pgs_nil))))
      (pss_one (ps_ret (pe_or (pe_cmpR (oeqO O_Lot_eq hr) (pv 3) (pv 0) (nomark _)) (pe_one (pe_cmpR (op_inK (K := K) rfl) (pv 4) (pcg C_barring_sizes hr hgd (pa_cons (pcg C__one_more hr hgd (pa_cons (pv 0) (pa_cons (pv 3) pa_nil))) (pa_cons (pv 1) pa_nil))) (by with_unfolding_all rfl))))))))), ?_⟩
    refine Evl.q_drop (Evl.ev_call (Evl.ea_cons (Evl.ev_var rfl) (Evl.ea_cons (Evl.ev_var rfl) Evl.ea_nil)) (fun H1 e1 Q q E => ⟨a, b, qs, ss, rfl, hl.up e1, hc, hs.up e1, q⟩)) (fun H1 e1 => ?_)
    have hl1 := hl.up e1
    have hs1 := hs.up e1
    have hv1 := hv.up e1
    refine Evl.q_when (Evl.et_not (Evl.et_B (Evl.ev_call (Evl.ea_cons (Evl.ev_var rfl) (Evl.ea_cons (Evl.ev_var rfl) (Evl.ea_cons (Evl.ev_var rfl) Evl.ea_nil))) (pap_v hl1 hc hs1 ho hv1)))) (fun z H2 e2 => ?_) (fun z H2 e2 => ?_)
    · cases r with
      | some r => cases z
      | none => exact q H2 (e1.trans e2)
    · cases hv1 with
      | @all t o h l ff =>
        refine ⟨_, rfl, _, _, rfl, Evl.ex_t e2 h, rfl, _, _, rfl, _, _, rfl, rfl, ?_⟩
        exact Evl.s_ret (Evl.ev_is (Evl.ev_orV (a := true) (b := true) (Evl.ev_is (ev_lotEq (Evl.ev_var rfl) (Evl.ev_var rfl) (l.up e2) (hl1.up e2)) (by rw [eqP_lot hc hc, decide_eq_true rfl])) (fun z => nomatch z)) rfl) (fun H3 e3 => q H3 (e1.trans (e2.trans e3)))
      | @one t o i os h l c pp ff n m =>
        refine ⟨_, rfl, _, _, rfl, Evl.ex_t e2 h, rfl, _, _, rfl, _, _, rfl, rfl, ?_⟩
        have n0 : 0 ≤ numR os := numR_nn fun r hr => (siz_int (c.ct.ok r hr).2).1
        exact Evl.s_ret (Evl.ev_is (Evl.ev_orV (a := false) (Evl.ev_is (ev_lotEq (Evl.ev_var rfl) (Evl.ev_var rfl) (l.up e2) (hl1.up e2)) (by rw [eqP_lot c hc, decide_eq_false n])) (fun _ => ev_inEt (Evl.ev_var rfl) (etu_brs (elot_one (Evl.ev_var rfl) (hl1.up e2) hc (elot_v (Evl.ev_var rfl) (l.up e2)) c.ct) (esto_v (Evl.ev_var rfl) (hs1.up e2)) (prt_lot hc (by omega) (prt_cts 0 hc.ct (by omega))) ho))) rfl) (fun H3 e3 => q H3 (e1.trans (e2.trans e3)))
      | _ => cases z
theorem ok_isW {CL CS : Addr} (B : Bl mg) (D : Df K mg "is_total_paper" s_is_total_paper ["lot", "store", "value"]) (C_check_most : Cg P w K mg base CX0 3 "check_most" (spChkL K CL CS)) (C__is_part_paper : Cg P w K mg base CX0 9 "_is_part_paper" (spPap K CL CS)) (O_Lot_eq : Og P w K mg base 1 CL "__eq__" ["self", "other"] (spLotEq K CL)) (P_total : Pg P w K mg base 1 CL "total" (spTotal K CL)) (P_sizes : Pg P w K mg base 1 CL "sizes" (spSizes K CL)) (O_Lot_getitem : Og P w K mg base 4 CL "__getitem__" ["self", "at"] (spItem K CL)) (O_Store_units : Og P w K mg base 4 CS "units" ["self", "size"] (spUnits K CS)) : Cg P w K mg base CX0 10 "is_total_paper" (spIsT K CL CS isW) := by
  refine cg_of D sc_is_total_paper (fun vs H Q E h => ?_) (fun f cdv A fr s H vs Q E hr hgd h => ?_)
  · obtain ⟨a, b, v, qs, ss, r, rfl, _⟩ := h
    rfl
  · obtain ⟨a, b, v, qs, ss, r, rfl, hl, hc, hs, ho, hv, q⟩ := h
    refine ⟨_, (pss_cons (ps_expr (pcg C_check_most hr hgd (pa_cons (pv 0) (pa_cons (pv 1) pa_nil))))
    (pss_cons (ps_if (pt_not (pt_val (pcg C__is_part_paper hr hgd (pa_cons (pv 0) (pa_cons (pv 1) (pa_cons (pv 2) pa_nil)))))) (pss_one (ps_ret pe_bl)) pss_nil)
     (pss_cons (ps_asg (pv 2) (pg_tup (n := 2) rfl (pgs_cons (pg_name (i := 3) sc_is_total_paper.nd rfl (by first | exact Or.inl rfl | exact Or.inr rfl)) (pgs_cons (pg_name (i := 4) sc_is_total_paper.nd rfl (by first | exact Or.inl rfl | exact Or.inr rfl)) pgs_nil))))
      (pss_cons (ps_if (pt_cmpR (oeqO O_Lot_eq hr) (pv 3) (pv 0) (nomark _)) (pss_one (ps_ret pe_bl)) pss_nil)
       (pss_one (ps_ret (pe_cmpR op_eq (pprop P_total hr (pv 3)) (pe_op op_add (pe_op op_mulW (pv 4) (pmeth O_Store_units hr (pv 1) (pa_cons (pv 4) pa_nil))) (pe_callB (cr_sum rfl) (by rfl) B.sum bt_sum (pa_cons (pe_lc (own := [("each", 5)]) (g := (gName 5)) rfl sc_is_total_paper.nd (pi_tup (pprop P_sizes hr (pv 0))) (blkOk_by (own := [("each", 5)]) (N := n_is_total_paper) (sc := defScope s_is_total_paper) (by decide +kernel)) (fun _ _ _ _ _ => (pg_name (i := 5) sc_is_total_paper.nd rfl (by first | exact Or.inl rfl | exact Or.inr rfl))) (fun _ _ _ _ _ => (pts_one (pt_cmpR op_lt (pv 5) (pv 4) (nomark _)))) (fun _ _ _ _ _ => (pe_op op_mulW (pv 5) (pgetO O_Lot_getitem hr (pv 0) (pv 5))))) pa_nil))) (nomark _)))))))), ?_⟩
    refine Evl.q_drop (Evl.ev_call (Evl.ea_cons (Evl.ev_var rfl) (Evl.ea_cons (Evl.ev_var rfl) Evl.ea_nil)) (fun H1 e1 Q q E => ⟨a, b, qs, ss, rfl, hl.up e1, hc, hs.up e1, q⟩)) (fun H1 e1 => ?_)
    have hl1 := hl.up e1
    have hs1 := hs.up e1
    have hv1 := hv.up e1
    refine Evl.q_when (Evl.et_not (Evl.et_B (Evl.ev_call (Evl.ea_cons (Evl.ev_var rfl) (Evl.ea_cons (Evl.ev_var rfl) (Evl.ea_cons (Evl.ev_var rfl) Evl.ea_nil))) (pap_v hl1 hc hs1 ho hv1)))) (fun z H2 e2 => ?_) (fun z H2 e2 => ?_)
    · cases r with
      | some r => cases z
      | none => exact q H2 (e1.trans e2)
    · cases hv1 with
      | @all t o h l ff =>
        refine ⟨_, rfl, _, _, rfl, Evl.ex_t e2 h, rfl, _, _, rfl, _, _, rfl, rfl, ?_⟩
        refine Evl.q_when (b := true) (Evl.et_is (Evl.et_test (ev_lotEq (Evl.ev_var rfl) (Evl.ev_var rfl) (l.up e2) (hl1.up e2))) (by rw [eqP_lot hc hc]; exact decide_eq_true rfl)) (fun _ H3 e3 => q H3 (e1.trans (e2.trans e3))) (fun z => nomatch z)
      | @one t o i os h l c pp ff n m =>
        refine ⟨_, rfl, _, _, rfl, Evl.ex_t e2 h, rfl, _, _, rfl, _, _, rfl, rfl, ?_⟩
        have hiN : i ∈ qs.map Prod.fst := by
          obtain ⟨y, hy⟩ := Option.isSome_iff_exists.mp m
          exact List.mem_map.mpr ⟨(i, y), (cnt_mem hc.ct.nd).mpr hy, rfl⟩
        obtain ⟨i0, i1, iz⟩ := cts_pos hc.ct i hiN
        obtain ⟨u0, u1⟩ := unt_sto (s := i) ho i0
        refine Evl.q_when (b := false) (Evl.et_is (Evl.et_test (ev_lotEq (Evl.ev_var rfl) (Evl.ev_var rfl) (l.up e2) (hl1.up e2))) (by rw [eqP_lot c hc]; exact decide_eq_false n)) (fun z => nomatch z) (fun _ H3 e3 => ?_)
        have l3 := l.up (e2.trans e3)
        have hl3 := hl1.up (e2.trans e3)
        have hs3 := hs1.up (e2.trans e3)
        have ln := hc.ct.ln
        refine Evl.s_ret (Evl.ev_is (ev_eq (ev_total (K := K) (Evl.ev_var rfl) l3 c.ct) (ev_i0 (g := fun i j => .int (i + j)) (ev_i (g := fun i j => .int (i * j)) (Evl.ev_var rfl) (ev_units (K := K) (Evl.ev_var rfl) (Evl.ev_var rfl) hs3 ho iz) (wide_mul (a := 800) (b := 1900) (Nat.lt_trans i1 (by decide +kernel)) (Nat.lt_trans u1 (by decide +kernel)) (by decide) (by decide) (by decide))) (ev_sum (K := K) (ns := ((qs.map Prod.fst).filter fun s => decide (s < i)).map fun s => s * cf qs s) (Ck.el_is (el_lcN (K := K) (fun s => decide (s < i)) (fun s => .int (s * cf qs s)) (etu_sizes (Evl.ev_var rfl) hl3) (by rw [List.length_map]; omega) (fun _ => rfl) (fun s hs H4 e4 => Evl.et_test (ev_i0 (Evl.ev_var rfl) (Evl.ev_var rfl))) (fun s hs _ H4 e4 => ?_)) (by rw [List.map_map]; rfl)))) rfl) (congrArg V.bl (decide_eq_decide.mpr ⟨V.int.inj, congrArg V.int⟩))) (fun H4 e4 => q H4 (e1.trans (e2.trans (e3.trans e4))))
        obtain ⟨s0, s1, sz⟩ := cts_pos hc.ct s hs
        obtain ⟨p, hp, e⟩ := List.mem_map.mp hs
        have cb : (cf qs s).natAbs < 10 ^ 200 := by
          rw [← e, cf_mem hc.ct.nd hp]
          exact (siz_int (hc.ct.ok p hp).2).2
        exact ev_i (g := fun i j => .int (i * j)) (Evl.ev_var rfl) (ev_item (K := K) (Evl.ev_var rfl) (Evl.ev_var rfl) (hl3.up e4) sz) (mul200 s1 cb)
      | _ => cases z
def spTp (K : PySem.W.Frag) (CL CS : Addr) : Sp := fun vs H Q _ => ∃ a b qs ss, vs = [.ref a, .ref b] ∧ LotAt K CL H a qs ∧ LotC qs ∧ StoAt K CS H b ss ∧ StoOk ss ∧
  ∀ t c fs y H', Evl.Ex H H' → SqT K H' t [.ref c, y] → LotAt K CL H' c fs → fs ∈ partsOf qs → fitB fs ss = true → ((fs = qs ∧ y = .non) ∨ (fs ≠ qs ∧ ∃ i, y = .int i)) → Q (.ref t) H'
theorem ret_two {D : Ends} {σ : L2.St} {H : Hp} {ta tb : TE} {a : Addr} {y : V} (ha : Evl.Ev ta σ H (.ref a)) (hb : Evl.Ev tb σ H y) (k : ∀ t H', Evl.Ex H H' → SqT K H' t [.ref a, y] → D.rt (.ref t) H') : tRet (tTup (tCons ta (tCons tb tNil))) D σ H :=
  ha H (Evl.Ex.refl H) _ fun H1 e1 => hb H1 e1 _ fun H2 e2 => ⟨(show 2 ≤ sizeLine by decide), fun p np => k p _ ((e1.trans e2).trans (Evl.Ex.new np)) (SqT.of upd_same)⟩
theorem ok_tp {CL CS : Addr} (B : Bl mg) (D : Df K mg "things_paper" s_things_paper ["lot", "store"]) (C_keep_things : Cg P w K mg base CX0 10 "keep_things" (spKeep K CL CS false)) (O_Lot_eq : Og P w K mg base 1 CL "__eq__" ["self", "other"] (spLotEq K CL)) (C_barring_sizes : Cg P w K mg base CX0 6 "barring_sizes" (spBrs K CL CS)) (C__one_more : Cg P w K mg base CX0 6 "_one_more" (spOne K CL)) : Cg P w K mg base CX0 11 "things_paper" (spTp K CL CS) := by
  refine cg_of D sc_things_paper (fun vs H Q E h => ?_) (fun f cdv A fr s H vs Q E hr hgd h => ?_)
  · obtain ⟨a, b, qs, ss, rfl, _⟩ := h
    rfl
  · obtain ⟨a, b, qs, ss, rfl, hl, hc, hs, ho, q⟩ := h
    refine ⟨_, (pss_cons (ps_set (i := 2) sc_things_paper.nd rfl (by first | exact Or.inl rfl | exact Or.inr rfl) (pcg C_keep_things hr hgd (pa_cons (pv 0) (pa_cons (pv 1) pa_nil))))
    (pss_cons (ps_if (pt_cmpR (oeqO O_Lot_eq hr) (pv 2) (pv 0) (nomark _)) (pss_one (ps_ret (pe_tup (pa_cons (pv 2) (pa_cons pe_non pa_nil))))) pss_nil)
     (pss_one (ps_ret (pe_tup (pa_cons (pv 2) (pa_cons (pe_ix ix_tup (pcg C_barring_sizes hr hgd (pa_cons (pcg C__one_more hr hgd (pa_cons (pv 0) (pa_cons (pv 2) pa_nil))) (pa_cons (pv 1) pa_nil))) (pe_un un_neg pe_int) (fun _ _ => rfl)) pa_nil))))))), ?_⟩
    refine q_asgP (P := fun v H' => ∃ c fs, v = .ref c ∧ Evl.Ex H H' ∧ LotAt K CL H' c fs ∧ LotC fs ∧ fitB fs ss = true ∧ fs ∈ partsOf qs ∧ ∀ X ∈ partsOf qs, fitB X ss = true → numR X ≤ numR fs) (fun Q2 q2 => ⟨.ref a, rfl, .ref b, rfl, a, b, qs, ss, rfl, hl, hc, hs, ho, fun c fs H1 e1 h1 h2 h3 h4 h5 => q2 _ _ ⟨c, fs, rfl, e1, h1, h2, h4, (best_things hc ho h2 h3 h5).1, (best_things hc ho h2 h3 h5).2⟩⟩) ?_
    rintro _ H1 ⟨c, fs, rfl, e1, h1, h2, h3, h4, h5⟩
    have hl1 := hl.up e1
    have n0 : 0 ≤ numR fs := (part_num hc h4).1
    refine Evl.q_when (Evl.et_is (Evl.et_test (ev_lotEq (Evl.ev_var rfl) (Evl.ev_var rfl) h1 hl1)) (eqP_lot h2 hc)) (fun z H2 e2 => ?_) (fun z H2 e2 => ?_)
    · exact ret_two (K := K) (Evl.ev_var rfl) Evl.ev_c (fun t H3 e3 ht => q t c fs .non H3 (e1.trans (e2.trans e3)) ht (h1.up (e2.trans e3)) h4 h3 (.inl ⟨of_decide_eq_true z, rfl⟩))
    · have ne := of_decide_eq_false z
      have ct := prt_cts (f := 0) (l := numR fs + 1) 0 hc.ct (by omega)
      have bn := bars_some hc ct h4 ne h5
      exact ret_two (K := K) (Evl.ev_var rfl) (ev_ixTu (etu_brs (elot_one (Evl.ev_var rfl) (hl1.up e2) hc (elot_v (Evl.ev_var rfl) (h1.up e2)) h2.ct) (esto_v (Evl.ev_var rfl) (hs.up (e1.trans e2))) (prt_lot hc (by omega) ct) ho) (ev_neg Evl.ev_c) (at_last bn)) (fun t H3 e3 ht => q t c fs _ H3 (e1.trans (e2.trans e3)) ht (h1.up (e2.trans e3)) h4 h3 (.inr ⟨ne, _, rfl⟩))
theorem ok_chm (B : Bl mg) (D : Df K mg "_law_chain" s__law_chain ["dice", "many", "start"]) (C__law_roll : Cg P w K mg base CX0 1 "_law_roll" spRoll) : Cg P w K mg base CX0 2 "_law_chain" (spChM K) := by
  refine cg_of D sc__law_chain (fun vs H Q E h => ?_) (fun f cdv A fr s H vs Q E hr hgd h => ?_)
  · obtain ⟨d, m, sz, rfl, _⟩ := h
    rfl
  · obtain ⟨d, m, sz, rfl, m0, m1, z0, z1, hd, q⟩ := h
    refine ⟨_, (pss_cons (ps_set (i := 3) sc__law_chain.nd rfl (by first | exact Or.inl rfl | exact Or.inr rfl) (pe_lst (pa_cons (pe_op op_add pe_int (pcg C__law_roll hr hgd (pa_cons (pv 0) (pa_cons (pv 2) pa_nil)))) pa_nil)))
    (pss_cons (ps_for PassesOwn.never rfl (pi_range1 (by rfl) B.range (pa_cons (pcg C__law_roll hr hgd (pa_cons (pv 0) (pa_cons (pv 1) pa_nil))) pa_nil)) (pg_name (i := 4) sc__law_chain.nd rfl (by first | exact Or.inl rfl | exact Or.inr rfl)) (pss_one (ps_expr (pe_bm PySem.F.plainAttrs_list PySem.F.slot_list_append PySem.F.type_list_append mt_append (pv 3) (pa_cons (pe_op op_mul (pe_ix ix_list (pv 3) (pe_un un_neg pe_int) (fun _ _ => rfl)) (pe_op op_add pe_int (pcg C__law_roll hr hgd (pa_cons (pv 0) (pa_cons pe_int pa_nil))))) pa_nil)))))
     (pss_one (ps_ret (pe_callTy call_tuple_of (by rfl) B.tuple bt_tuple (pa_cons (pv 3) pa_nil)))))), ?_⟩
    refine ⟨.ref d, rfl, .int sz, rfl, d, sz, rfl, by omega, by omega, hd, fun r H1 r0 r1 hd1 k1 => ⟨_, _, rfl, rfl, (show 1 ≤ sizeLine by decide), fun l hl => ?_⟩⟩
    have ne := hd1.ne hl
    refine ⟨.ref d, rfl, .int (m : Int), rfl, d, (m : Int), rfl, by omega, by omega, hd1.new hl, fun n H2 n0 n1 hd2 k2 => ⟨n, rfl, by omega, by omega, ?_⟩⟩
    have hl0 : H l = none := (k1 l ne).symm.trans hl
    refine for_range (fun i σ H' => Kd d H H' ∧ ∃ (ns : List Int) (L : Int) (t : Option V), σ = [some (.ref d), some (.int (m : Int)), some (.int sz), some (.ref l), t] ∧ H' l = some (.lst (ns.map V.int)) ∧ Chd ns L ∧ L ≤ sz * 4 ^ i ∧ ns.length = i + 1) ?_ ?_ ?_
    · refine ⟨(Kd.but hd1 k1).trans ((Kd.ex hd1 (Evl.Ex.new hl)).trans (Kd.but hd2 k2)), [1 + r], 1 + r, none, rfl, ?_, Chd.one (by omega), by show 1 + r ≤ sz * 1; omega, rfl⟩
      rw [k2 l ne]
      exact upd_same
    · rintro i _ H3 hi ⟨k3, ns, L, t, rfl, l3, hc, hL, hn⟩
      have lpos := hc.posL
      refine ⟨.ref l, rfl, .inl ⟨rfl, _, SqL.of l3⟩, .ref l, rfl, _, rfl, l, _, -1, _, rfl, rfl, SqL.of l3, hc.at, .ref d, rfl, d, 3, rfl, by decide, by decide, k3.2, fun y H4 y0 y1 hd4 k4 => ⟨_, _, rfl, rfl, _, _, rfl, rfl, .inr ⟨by omega, by omega⟩, l, ns.map V.int, _, rfl, rfl, ?_, ?_, ?_⟩⟩
      · rw [k4 l ne]; exact l3
      · rw [List.length_map, hn, sizeLine_eq]; omega
      · refine ⟨⟨Kp.mut (k3.trans (Kd.but hd4 k4)).1 hl0, hd4.put ne⟩, ns ++ [L * (2 + y)], L * (2 + y), _, rfl, ?_, hc.snoc (by omega), ?_, ?_⟩
        · rw [List.map_append]; exact upd_same
        · have a1 : L * (2 + y) ≤ (sz * 4 ^ i) * 4 := Int.mul_le_mul hL (by omega) (by omega) (Int.mul_nonneg (by omega) (Int.pow_nonneg (by decide)))
          rw [Int.pow_succ, ← Int.mul_assoc]
          exact a1
        · rw [List.length_append, hn]; rfl
    · rintro _ H3 ⟨k3, ns, L, t, rfl, l3, hc, hL, hn⟩
      have hL2 : L ≤ sz * 4 ^ (m - 1) := Int.le_trans hL (Int.mul_le_mul_of_nonneg_left (pow4_le (by omega)) (by omega))
      exact Evl.s_retU (eu_tup_of (Evl.ev_var rfl) (SqL.of l3)) (fun p H4 hp e4 h4 => q p ns L H4 (k3.to e4) (k3.2.ne hp) (SqT.of h4) (by omega) hc hL2)
theorem ok_mixv (B : Bl mg) (D : Df K mg "_law_mixed" s__law_mixed ["dice", "items"]) (C__law_roll : Cg P w K mg base CX0 1 "_law_roll" spRoll) : Cg P w K mg base CX0 2 "_law_mixed" (spMixV K) := by
  refine cg_of D sc__law_mixed (fun vs H Q E h => ?_) (fun f cdv A fr s H vs Q E hr hgd h => ?_)
  · obtain ⟨d, p, zs, rfl, _⟩ := h
    rfl
  · obtain ⟨d, p, zs, rfl, ne, hd, hp, hl, q⟩ := h
    refine ⟨_, (pss_cons (ps_par (i := 2) (j := 3) rfl sc__law_mixed.nd rfl rfl (by decide) rfl rfl (pa_cons (pe_callTy call_list_of (by rfl) B.list bt_list (pa_cons (pv 1) pa_nil)) (pa_cons (pe_lst pa_nil) pa_nil)) (by rfl))
    (pss_cons (ps_for PassesOwn.never rfl (pi_range1 (by rfl) B.range (pa_cons (pe_callB call_len_seq (by rfl) B.len bt_len (pa_cons (pv 1) pa_nil)) pa_nil)) (pg_name (i := 4) sc__law_mixed.nd rfl (by first | exact Or.inl rfl | exact Or.inr rfl)) (pss_one (ps_expr (pe_bm PySem.F.plainAttrs_list PySem.F.slot_list_append PySem.F.type_list_append mt_append (pv 3) (pa_cons (pe_bm PySem.F.plainAttrs_list PySem.F.slot_list_pop PySem.F.type_list_pop mt_popAt (pv 2) (pa_cons (pcg C__law_roll hr hgd (pa_cons (pv 0) (pa_cons (pe_callB call_len_seq (by rfl) B.len bt_len (pa_cons (pv 2) pa_nil)) pa_nil))) pa_nil)) pa_nil)))))
     (pss_one (ps_ret (pv 3))))), ?_⟩
    refine ⟨.ref p, rfl, p, _, rfl, hp, fun l nl => ⟨(show 0 ≤ sizeLine by decide), fun m nm => ?_⟩⟩
    have nl2 := hd.ne nl
    have nm0 : H m = none := Evl.fresh_back (Evl.Ex.new nl) nm
    have nm2 := hd.ne nm0
    have lm : l ≠ m := fun e => by rw [e, upd_same] at nm; cases nm
    have E2 : Evl.Ex H (upd (upd H l (.lst zs)) m (.lst [])) := (Evl.Ex.new nl).trans (Evl.Ex.new nm)
    refine ⟨_, _, rfl, .ref p, rfl, p, _, rfl, hp.imp (Evl.ex_l E2) (Evl.ex_t E2), _, rfl, ?_, ?_, ?_⟩
    · omega
    · omega
    refine for_range (fun i σ H' => Kd d H H' ∧ ∃ (xs ys : List V) (t : Option V), σ = [some (.ref d), some (.ref p), some (.ref l), some (.ref m), t] ∧ H' l = some (.lst xs) ∧ H' m = some (.lst ys) ∧ (ys ++ xs).Perm zs ∧ ys.length = i) ?_ ?_ ?_
    · exact ⟨Kd.ex hd E2, zs, [], none, rfl, by rw [upd_ne lm]; exact upd_same, upd_same, List.Perm.refl _, rfl⟩
    · rintro i _ H3 hi ⟨k3, xs, ys, t, rfl, hx, hy, hp2, hn⟩
      have hlen := hp2.length_eq
      rw [List.length_append, hn] at hlen
      refine ⟨.ref m, rfl, .inl ⟨rfl, _, SqL.of hy⟩, .ref l, rfl, .inl ⟨rfl, _, SqL.of hx⟩, .ref d, rfl, .ref l, rfl, l, _, rfl, .inl (SqL.of hx), d, _, rfl, by omega, by omega, k3.2, fun r H4 r0 r1 hd4 k4 => ?_⟩
      have k34 := k3.trans (Kd.but hd4 k4)
      have hx4 : H4 l = some (.lst xs) := (k4 l nl2).trans hx
      have hy4 : H4 m = some (.lst ys) := (k4 m nm2).trans hy
      have rl : r.toNat < xs.length := by omega
      refine ⟨l, xs, r, r.toNat, xs[r.toNat], rfl, rfl, hx4, by omega, by omega, ?_, by rw [List.getElem?_eq_getElem rl], m, ys, _, rfl, rfl, by rw [upd_ne (Ne.symm lm)]; exact hy4, ?_, ?_⟩
      · unfold seqIndex?
        simp only [if_neg (show ¬ r < 0 by omega)]
        rw [if_pos (by simp; omega)]
      · rw [hn, sizeLine_eq]; omega
      · refine ⟨⟨Kp.mut (Kp.mut k34.1 nl) nm0, (k34.2.put nl2).put nm2⟩, xs.eraseIdx r.toNat, ys ++ [xs[r.toNat]], _, rfl, ?_, ?_, ?_, by rw [List.length_append, hn]; rfl⟩
        · rw [upd_ne lm, upd_same]
        · rw [upd_same]
        · refine List.Perm.trans ?_ hp2
          rw [List.append_assoc]
          exact List.Perm.append_left ys (cons_eraseIdx xs r.toNat rl)
    · rintro _ H3 ⟨k3, xs, ys, t, rfl, hx, hy, hp2, hn⟩
      have hlen := hp2.length_eq
      rw [List.length_append] at hlen
      have xe : xs = [] := List.eq_nil_of_length_eq_zero (by omega)
      rw [xe, List.append_nil] at hp2
      exact ⟨.ref m, rfl, q m ys H3 k3 nm2 nm0 hy hp2⟩
theorem ok_fewm (B : Bl mg) (D : Df K mg "_law_small_lot" s__law_small_lot ["dice", "sizes", "most"]) (C__law_roll : Cg P w K mg base CX0 1 "_law_roll" spRoll) (C__law_mixed : Cg P w K mg base CX0 2 "_law_mixed" (spMixV K)) : Cg P w K mg base CX0 3 "_law_small_lot" (spFewM K) := by
  refine cg_of D sc__law_small_lot (fun vs H Q E h => ?_) (fun f cdv A fr s H vs Q E hr hgd h => ?_)
  · obtain ⟨d, p, m, ns, rfl, _⟩ := h
    rfl
  · obtain ⟨d, p, m, ns, rfl, m0, m1, ne, hd, hp, hl, hnd, q⟩ := h
    refine ⟨_, (pss_cons (ps_par (i := 3) (j := 4) rfl sc__law_small_lot.nd rfl rfl (by decide) rfl rfl (pa_cons pe_dnewK (pa_cons (pcg C__law_roll hr hgd (pa_cons (pv 0) (pa_cons (pe_op op_add (pv 2) pe_int) pa_nil))) pa_nil)) (by rfl))
    (pss_cons (ps_for PassesOwn.never rfl (pi_list (pcg C__law_mixed hr hgd (pa_cons (pv 0) (pa_cons (pv 1) pa_nil)))) (pg_name (i := 5) sc__law_small_lot.nd rfl (by first | exact Or.inl rfl | exact Or.inr rfl)) (pss_cons (ps_set (i := 6) sc__law_small_lot.nd rfl (by first | exact Or.inl rfl | exact Or.inr rfl) (pcg C__law_roll hr hgd (pa_cons (pv 0) (pa_cons (pe_op op_add (pv 4) pe_int) pa_nil))))
    (pss_cons (ps_if (pt_cmpR op_gt (pv 6) pe_int (nomark _)) (pss_one (ps_dput (hu_of hr) (pv 3) (pv 5) (pv 6) rfl)) pss_nil)
     (pss_one (ps_set (i := 4) sc__law_small_lot.nd rfl (by first | exact Or.inl rfl | exact Or.inr rfl) (pe_op op_sub (pv 4) (pv 6)))))))
     (pss_one (ps_ret (pv 3))))), ?_⟩
    refine fun g ng => ?_
    have gd := hd.ne ng
    have e1 : Evl.Ex H (upd H g (.dK [])) := Evl.Ex.new ng
    have hg1 : upd H g (.dK []) g = some (.dK []) := upd_same
    have hd1 : Dice (upd H g (.dK [])) d := hd.new ng
    generalize upd H g (.dK []) = H1 at e1 hg1 hd1 ⊢
    refine ⟨.ref d, rfl, .int m, rfl, _, _, rfl, rfl, d, _, rfl, by omega, by omega, hd1, fun r H2 r0 r1 hd2 k2 => ⟨_, _, rfl, ?_⟩⟩
    have k02 : Kd d H H2 := (Kd.ex hd e1).trans (Kd.but hd2 k2)
    have hg2 : H2 g = some (.dK []) := (k2 g gd).trans hg1
    refine ⟨.ref d, rfl, .ref p, rfl, d, p, _, rfl, ne, hd2, .inr (k02.1.sqT ne hp), by rw [List.length_map]; omega, fun l ys H3 k3 ld nl hl3 hpv => ⟨l, rfl, ⟨_, SqL.of hl3⟩, ?_⟩⟩
    obtain ⟨ms, rfl, hpm⟩ := perm_ints hpv
    clear hpv
    have lg : l ≠ g := fun e => by rw [e, hg2] at nl; cases nl
    have ml : ms.length ≤ 100 := by rw [hpm.length_eq]; exact hl
    have mnd : ms.Nodup := (List.Perm.nodup_iff hpm).mpr hnd
    refine for_it walk_list (fun i σ H' => Kd d H H' ∧ H' l = some (.lst (ms.map V.int)) ∧ ∃ (ps : List (Int × Int)) (left : Int) (t5 t6 : Option V), σ = [some (.ref d), some (.ref p), some (.int m), some (.ref g), some (.int left), t5, t6] ∧ H' g = some (.dK (ps.map kc)) ∧ 0 ≤ left ∧ left ≤ m ∧ (ps.map Prod.snd).sum + left ≤ m ∧ (∀ x ∈ ps, x.1 ∈ ms.take i ∧ 0 < x.2) ∧ (ps.map Prod.fst).Nodup ∧ ps.length ≤ i) ?_ (fun i σ H' _ h => SqL.of h.2.1) ?_ ?_
    · exact ⟨k02.trans k3, hl3, [], r, none, none, rfl, (k3.1 g _ gd hg2), r0, by omega, by show (0 : Int) + r ≤ m; omega, fun x hx => (nomatch hx), List.nodup_nil, Nat.le_refl _⟩
    · rintro i x σ H4 _ hi ⟨k4, hl4, ps, left, t5, t6, rfl, hg4, f0, f1, f2, f3, f4, f5⟩ ⟨rfl, hxi⟩
      rw [List.length_map] at hi
      rw [List.getElem?_map, List.getElem?_eq_getElem hi] at hxi
      obtain rfl := Option.some.inj hxi
      have st : ms.take (i + 1) = ms.take i ++ [ms[i]] := by rw [List.take_add_one, List.getElem?_eq_getElem hi]; rfl
      have nin : ms[i] ∉ ms.take i := fun m => by
        have z := mnd
        rw [← List.take_append_drop (i + 1) ms, st, List.nodup_append] at z
        exact (List.nodup_append.mp z.1).2.2 _ m _ (List.mem_singleton.mpr rfl) rfl
      generalize ms[i] = z at nin st
      refine ⟨.ref d, rfl, .int left, rfl, _, _, rfl, rfl, d, _, rfl, by omega, by omega, k4.2, fun r H5 r0 r1 hd5 k5 => ?_⟩
      have k45 := k4.trans (Kd.but hd5 k5)
      have hg5 : H5 g = some (.dK (ps.map kc)) := (k5 g gd).trans hg4
      have hl5 : H5 l = some (.lst (ms.map V.int)) := (k5 l ld).trans hl4
      refine ⟨.int r, rfl, _, _, rfl, rfl, _, rfl, ?_⟩
      refine if_b _ (fun rp => ?_) (fun rn => ?_)
      · have rp := of_decide_eq_true rp
        have znk : z ∉ ps.map Prod.fst := fun m => by
          obtain ⟨x, hx, e⟩ := List.mem_map.mp m
          exact nin (e ▸ (f3 x hx).1)
        refine ⟨.int r, rfl, .ref g, rfl, .int z, rfl, g, _, rfl, DPut.k (k := Sum.inl z) hg5 (by rw [List.length_map, sizeLine_eq]; omega), .int left, rfl, .int r, rfl, _, _, rfl, rfl, ?_⟩
        refine ⟨⟨Kp.mut k45.1 ng, k45.2.put gd⟩, by rw [upd_ne lg]; exact hl5, ps ++ [(z, r)], left - r, _, _, rfl, by rw [upd_same, putK_new znk], by omega, by omega, by rw [sum_snoc]; omega, fun x hx => ?_, ?_, by rw [List.length_append]; exact Nat.succ_le_succ f5⟩
        · rw [st]
          rcases List.mem_append.mp hx with m | m
          · exact ⟨List.mem_append_left _ (f3 x m).1, (f3 x m).2⟩
          · rw [List.mem_singleton.mp m]
            exact ⟨List.mem_append_right _ (List.mem_singleton.mpr rfl), rp⟩
        · rw [List.map_append, List.nodup_append]
          exact ⟨f4, List.nodup_cons.mpr ⟨List.not_mem_nil, List.nodup_nil⟩, fun a ha b hb => by cases List.mem_singleton.mp hb; exact fun e => znk (by rw [show z = a from e.symm]; exact ha)⟩
      · have rn := of_decide_eq_false rn
        refine ⟨.int left, rfl, .int r, rfl, _, _, rfl, rfl, ?_⟩
        refine ⟨k45, hl5, ps, left - r, _, _, rfl, hg5, by omega, by omega, by omega, fun x hx => ?_, f4, Nat.le_succ_of_le f5⟩
        rw [st]
        exact ⟨List.mem_append_left _ (f3 x hx).1, (f3 x hx).2⟩
    · rintro _ H4 ⟨k4, hl4, ps, left, t5, t6, rfl, hg4, f0, f1, f2, f3, f4, f5⟩
      rw [List.length_map] at f5
      refine ⟨.ref g, rfl, q g ps H4 k4 gd hg4 ⟨f4, fun x hx => ⟨hpm.mem_iff.mp (List.mem_of_mem_take (f3 x hx).1), (f3 x hx).2⟩, by omega, by rw [← hpm.length_eq]; exact f5⟩⟩
theorem ok_sms (B : Bl mg) (D : Df K mg "_law_small_store" s__law_small_store ["dice", "greatest", "most"]) (C__law_roll : Cg P w K mg base CX0 1 "_law_roll" spRoll) : Cg P w K mg base CX0 2 "_law_small_store" (spSmS K) := by
  refine cg_of D sc__law_small_store (fun vs H Q E h => ?_) (fun f cdv A fr s H vs Q E hr hgd h => ?_)
  · obtain ⟨d, g, m, rfl, _⟩ := h
    rfl
  · obtain ⟨d, g, m, rfl, g0, g1, m0, m1, hd, q⟩ := h
    refine ⟨_, (pss_cons (ps_set (i := 3) sc__law_small_store.nd rfl (by first | exact Or.inl rfl | exact Or.inr rfl) (pe_lst pa_nil))
    (pss_cons (ps_for PassesOwn.never rfl (pi_range1 (by rfl) B.range (pa_cons (pe_op op_add (pcg C__law_roll hr hgd (pa_cons (pv 0) (pa_cons (pv 2) pa_nil))) pe_int) pa_nil)) (pg_name (i := 4) sc__law_small_store.nd rfl (by first | exact Or.inl rfl | exact Or.inr rfl)) (pss_one (ps_expr (pe_bm PySem.F.plainAttrs_list PySem.F.slot_list_append PySem.F.type_list_append mt_append (pv 3) (pa_cons (pe_tup (pa_cons (pe_op op_add pe_int (pcg C__law_roll hr hgd (pa_cons (pv 0) (pa_cons (pv 1) pa_nil)))) (pa_cons pe_int pa_nil))) pa_nil)))))
     (pss_cons (ps_if (pt_cmpR op_eq (pcg C__law_roll hr hgd (pa_cons (pv 0) (pa_cons pe_int pa_nil))) pe_int (nomark _)) (pss_one (ps_set (i := 3) sc__law_small_store.nd rfl (by first | exact Or.inl rfl | exact Or.inr rfl) (pe_lst (pa_cons (pe_tup (pa_cons (pe_ix ix_tup (pe_ix ix_list (pv 3) pe_int (fun _ _ => rfl)) pe_int (fun _ _ => rfl)) (pa_cons (pe_callB call_len_seq (by rfl) B.len bt_len (pa_cons (pv 3) pa_nil)) pa_nil))) pa_nil)))) pss_nil)
      (pss_one (ps_ret (pe_ifExp (pt_cmpR op_gt (pcg C__law_roll hr hgd (pa_cons (pv 0) (pa_cons pe_int pa_nil))) pe_int (nomark _)) (pv 3) (pe_lst pa_nil))))))), ?_⟩
    refine ⟨(show 0 ≤ sizeLine by decide), fun l nl => ?_⟩
    have ld := hd.ne nl
    have k0 : Kd d H (upd H l (.lst [])) := Kd.ex hd (Evl.Ex.new nl)
    refine ⟨.ref d, rfl, .int m, rfl, d, m, rfl, by omega, by omega, k0.2, fun n H2 n0 n1 hd2 k2 => ⟨_, _, rfl, rfl, n + 1, rfl, by omega, by omega, ?_⟩⟩
    have kd2 : Kd d H H2 := k0.trans (Kd.but hd2 k2)
    refine for_range (fun i σ H' => Kd d H H' ∧ ∃ (vs : List V) (rs : List (Int × Int)) (t : Option V), σ = [some (.ref d), some (.int g), some (.int m), some (.ref l), t] ∧ H' l = some (.lst vs) ∧ F2 (RP K H') vs rs ∧ rs.length = i ∧ ∀ r ∈ rs, (0 < r.1 ∧ r.1 ≤ g) ∧ r.2 = 1) ⟨kd2, [], [], none, rfl, by rw [k2 l ld]; exact upd_same, .nil, rfl, fun r h => nomatch h⟩ ?_ ?_
    · rintro i _ H3 hi ⟨k3, vs, rs, t, rfl, hl3, hf3, hn, hr3⟩
      refine ⟨_, rfl, ?_⟩
      refine ⟨.inl ⟨rfl, vs, SqL.of hl3⟩, ?_⟩
      refine ⟨.ref d, rfl, .int g, rfl, d, g, rfl, g0, by omega, k3.2, fun y H4 y0 y1 hd4 k4 => ⟨_, _, rfl, rfl, ?_⟩⟩
      refine ⟨(show 2 ≤ sizeLine by decide), fun u nu => ?_⟩
      have k34 : Kd d H3 (upd H4 u (.tup [.int (1 + y), .int 1])) := (Kd.but hd4 k4).to (Evl.Ex.new nu)
      have hl7 := k34.1 l _ ld hl3
      refine ⟨l, vs, _, rfl, rfl, hl7, ?_, ?_⟩
      · rw [hf3.len, hn]
        refine Nat.lt_of_lt_of_le (show i < 1000 by omega) (show 1000 ≤ sizeLine by decide)
      · refine ⟨⟨Kp.mut (k3.trans k34).1 nl, k34.2.put ld⟩, vs ++ [.ref u], rs ++ [(1 + y, 1)], _, rfl, upd_same, ?_, by rw [List.length_append, hn]; rfl, fun r hr => ?_⟩
        · exact ((hf3.imp fun x b r => r.kd k3.2 k34).app (.cons ⟨u, rfl, SqT.of upd_same⟩ .nil)).imp fun x b r => RP.upd hl7 r
        · rcases List.mem_append.mp hr with h | h
          · exact hr3 r h
          · rw [List.mem_singleton.mp h]
            exact ⟨⟨by show 0 < 1 + y; omega, by show 1 + y ≤ g; omega⟩, rfl⟩
    · rintro _ H3 ⟨k3, vs, rs, t, rfl, hl3, hf3, hn, hr3⟩
      dsimp only
      have hn2 : 0 < rs.length ∧ (rs.length : Int) ≤ m := by omega
      have FIN : ∀ (H4 : Hp) (x : Addr) (ws : List V) (ss : List (Int × Int)), Kd d H H4 → x ≠ d → H x = none → H4 x = some (.lst ws) → F2 (RP K H4) ws ss → SmR g m ss → (tRet (tIf (tTest (tOp (rI0 fun i j => V.bl (decide (i > j))) (tCall spRoll [] E0 (tCons (tVar 0) (tCons (tC (.int 12)) tNil))) (tC (.int 0)))) (tVar 3) (tLst tNil))) { nx := fun _ H' => Q .non H', rt := Q } [some (.ref d), some (.int g), some (.int m), some (.ref x), t] H4 := fun H4 x ws ss k4 xd nx hx hf hs => by
        refine ⟨.ref d, rfl, d, 12, rfl, by decide, by decide, k4.2, fun y H5 y0 y1 hd5 k5 => ⟨y, 0, rfl, rfl, _, rfl, if_b _ (fun _ => ?_) (fun _ => ?_)⟩⟩
        · have k45 := Kd.but hd5 k5
          exact ⟨.ref x, rfl, q x ws ss H5 (k4.trans k45) xd nx ((k5 x xd).trans hx) (hf.imp fun a b r => r.kd k4.2 k45) hs⟩
        · have k45 := Kd.but hd5 k5
          refine ⟨(show 0 ≤ sizeLine by decide), fun z nz => ?_⟩
          have k6 := (k4.trans k45).to (Evl.Ex.new (o := .lst []) nz)
          have zd := hd5.ne nz
          refine q z [] [] _ k6 zd ?_ upd_same .nil ⟨(fun r h => nomatch h), by show (0 : Int) ≤ m; omega, by show (0 : Int) ≤ m; omega⟩
          match e : H z with
          | none => rfl
          | some o =>
            have := (k4.trans k45).1 z o zd e
            rw [nz] at this
            cases this
      have sm : SmR g m rs := ⟨fun r hr => ⟨(hr3 r hr).1, by rw [(hr3 r hr).2]; decide⟩, by
        have : ∀ l : List (Int × Int), (∀ r ∈ l, r.2 = 1) → (l.map fun r => r.2).sum = l.length := fun l => by
          induction l with
          | nil => exact fun _ => rfl
          | cons x t ih =>
            intro h
            rw [List.map_cons, List.sum_cons, h x List.mem_cons_self, ih fun r hr => h r (List.mem_cons_of_mem _ hr), List.length_cons]
            omega
        rw [this rs fun r hr => (hr3 r hr).2]
        exact hn2.2, hn2.2⟩
      refine ⟨.ref d, rfl, d, 4, rfl, by decide, by decide, k3.2, fun y H4 y0 y1 hd4 k4 => ⟨rfl, _, rfl, if_b _ (fun _ => ?_) (fun _ => ?_)⟩⟩
      · have k34 := Kd.but hd4 k4
        have hl4 := (k4 l ld).trans hl3
        have hf4 := hf3.imp fun a b r => r.kd k3.2 k34
        cases hf4 with
        | nil => exact absurd hn2.1 (by decide)
        | @cons x r0 xs rs' h t4 =>
          obtain ⟨u, rfl, hu⟩ := h
          refine q_asgP (P := fun v H' => ∃ z t, v = .ref z ∧ Evl.Ex H4 H' ∧ H4 z = none ∧ H' z = some (.lst [.ref t]) ∧ SqT K H' t [.int r0.1, .int ((xs.length + 1 : Nat) : Int)]) (fun Q2 q2 => lst_one (K := K) (Evl.eu_tup (vs := [.int r0.1, .int ((xs.length + 1 : Nat) : Int)]) (Evl.ea_cons (ev_ixT (Evl.ev_is (ev_ixL (i := 0) (v := .ref u) (Evl.ev_var (i := 3) rfl) Evl.ev_c (SqL.of hl4) (show atI (V.ref u :: xs) ((0 : Nat) : Int) = some (V.ref u) from atI_nat rfl)) rfl) Evl.ev_c hu rfl) (Evl.ea_cons (ev_lenL (Evl.ev_var (i := 3) rfl) (SqL.of hl4)) Evl.ea_nil)) (Nat.le_of_ble_eq_true rfl)) fun z t H5 n5 e5 hz ht => q2 _ _ ⟨z, t, rfl, e5, n5, hz, ht⟩) ?_
          rintro _ H5 ⟨z, t, rfl, e5, nz, hz, ht⟩
          have k5 := (k3.trans k34).to e5
          have zd := hd4.ne nz
          refine FIN H5 z [.ref t] [(r0.1, ((xs.length + 1 : Nat) : Int))] k5 zd ?_ hz (.cons ⟨t, rfl, ht⟩ .nil) ?_
          · match e : H z with
            | none => rfl
            | some o =>
              have := (k3.trans k34).1 z o zd e
              rw [nz] at this
              cases this
          · have hx := (hr3 r0 List.mem_cons_self).1
            have l5 := t4.len
            have l6 : rs'.length + 1 ≤ m := hn2.2
            refine ⟨fun r hr => ?_, ?_, ?_⟩
            · rw [List.mem_singleton.mp hr]
              exact ⟨hx, by show 0 < ((xs.length + 1 : Nat) : Int); omega⟩
            · show ((xs.length + 1 : Nat) : Int) + 0 ≤ m
              omega
            · show ((1 : Nat) : Int) ≤ m
              omega
      · have k34 := Kd.but hd4 k4
        exact FIN H4 l vs rs (k3.trans k34) ld nl ((k4 l ld).trans hl3) (hf3.imp fun a b r => r.kd k3.2 k34) sm
theorem ok_pickS (B : Bl mg) (D : Df K mg "_law_pick" s__law_pick ["dice", "items"]) (C__law_roll : Cg P w K mg base CX0 1 "_law_roll" spRoll) : Cg P w K mg base CX0 2 "_law_pick" (spPickS K) := by
  refine cg_of D sc__law_pick (fun vs H Q E h => ?_) (fun f cdv A fr s H vs Q E hr hgd h => ?_)
  · obtain ⟨d, p, xs, rfl, _⟩ := h
    rfl
  · obtain ⟨d, p, xs, rfl, hd, hp, ne, hx, hl, q⟩ := h
    refine ⟨_, (pss_one (ps_ret (pe_ix ix_seq (pv 1) (pcg C__law_roll hr hgd (pa_cons (pv 0) (pa_cons (pe_callB call_len_seq (by rfl) B.len bt_len (pa_cons (pv 1) pa_nil)) pa_nil))) (fun _ _ => rfl)))), ?_⟩
    have h0 : 0 < xs.length := List.length_pos_iff.mpr hx
    refine ⟨.ref p, rfl, .ref d, rfl, .ref p, rfl, p, xs, rfl, hp, d, _, rfl, by omega, by omega, hd, fun r H' r0 r1 hd' k => ?_⟩
    obtain ⟨x, hm, hx⟩ := at_in (xs := xs) r0 r1
    rcases hp with hp | hp
    · exact .inl ⟨p, xs, r, x, rfl, rfl, k.sqL ne hp, hx, q x hm H' hd' k⟩
    · exact .inr (.inl ⟨p, xs, r, x, rfl, rfl, k.kp.sqT ne hp, hx, q x hm H' hd' k⟩)
theorem ei_great {d : Addr} {σ : L2.St} {H : Hp} {i : Nat} {z : Int} (hv : σ[i]? = some (some (.ref d))) : Ei d (fun y => z ≤ y ∧ y < z + 10 ^ 31) (tCall spGreat [] E0 (tCons (tVar i) (tCons (tC (.int z)) tNil))) σ H := fun H1 e Q q =>
  ⟨_, hv, d, z, rfl, e.2, fun y H2 y0 y1 k => q _ H2 k ⟨_, rfl, by omega, by omega⟩⟩
def spGrs (K : PySem.W.Frag) : Sp := fun vs H Q _ => ∃ (d p : Addr) (ns : List Int), vs = [.ref d, .ref p] ∧ p ≠ d ∧ Dice H d ∧ SqT K H p (ns.map V.int) ∧ ns ≠ [] ∧ ns.length ≤ 100 ∧ (∀ n ∈ ns, 0 < n ∧ n < 10 ^ 27) ∧ ∀ l vs rs H', Kd d H H' → l ≠ d → H l = none → H' l = some (.lst vs) → F2 (RP K H') vs rs → rs ≠ [] → GrR rs → Q (.ref l) H'
theorem ok_grs (B : Bl mg) (D : Df K mg "_law_great_store" s__law_great_store ["dice", "sizes"]) (C__law_roll : Cg P w K mg base CX0 1 "_law_roll" spRoll) (C__law_pick : Cg P w K mg base CX0 2 "_law_pick" (spPickS K)) (C__law_great : Cg P w K mg base CX0 2 "_law_great" spGreat) : Cg P w K mg base CX0 3 "_law_great_store" (spGrs K) := by
  refine cg_of D sc__law_great_store (fun vs H Q E h => ?_) (fun f cdv A fr s H vs Q E hr hgd h => ?_)
  · obtain ⟨d, p, ns, rfl, _⟩ := h
    rfl
  · obtain ⟨d, p, ns, rfl, pd, hd, hp, hne, hln, hb, q⟩ := h
    refine ⟨_, (pss_cons (ps_set (i := 2) sc__law_great_store.nd rfl (by first | exact Or.inl rfl | exact Or.inr rfl) (pe_lst pa_nil))
    (pss_cons (ps_for PassesOwn.never rfl (pi_range1 (by rfl) B.range (pa_cons (pe_op op_add pe_int (pcg C__law_roll hr hgd (pa_cons (pv 0) (pa_cons pe_int pa_nil)))) pa_nil)) (pg_name (i := 3) sc__law_great_store.nd rfl (by first | exact Or.inl rfl | exact Or.inr rfl)) (pss_cons (ps_set (i := 4) sc__law_great_store.nd rfl (by first | exact Or.inl rfl | exact Or.inr rfl) (pe_op op_add (pe_op op_mul (pcg C__law_pick hr hgd (pa_cons (pv 0) (pa_cons (pv 1) pa_nil))) (pe_op op_add pe_int (pcg C__law_roll hr hgd (pa_cons (pv 0) (pa_cons pe_int pa_nil))))) (pcg C__law_roll hr hgd (pa_cons (pv 0) (pa_cons (pcg C__law_pick hr hgd (pa_cons (pv 0) (pa_cons (pe_lst (pa_cons pe_int (pa_cons pe_int (pa_cons pe_int pa_nil)))) pa_nil))) pa_nil)))))
    (pss_one (ps_expr (pe_bm PySem.F.plainAttrs_list PySem.F.slot_list_append PySem.F.type_list_append mt_append (pv 2) (pa_cons (pe_tup (pa_cons (pe_op op_add (pv 4) (pe_op op_mul (pcg C__law_roll hr hgd (pa_cons (pv 0) (pa_cons pe_int pa_nil))) (pcg C__law_pick hr hgd (pa_cons (pv 0) (pa_cons (pv 1) pa_nil))))) (pa_cons (pcg C__law_great hr hgd (pa_cons (pv 0) (pa_cons pe_int pa_nil))) pa_nil))) pa_nil))))))
     (pss_one (ps_ret (pv 2))))), ?_⟩
    refine ⟨(show 0 ≤ sizeLine by decide), fun l nl => ?_⟩
    have ld := hd.ne nl
    have k0 : Kd d H (upd H l (.lst [])) := Kd.ex hd (Evl.Ex.new nl)
    refine ⟨.ref d, rfl, d, 5, rfl, by decide, by decide, k0.2, fun n H2 n0 n1 hd2 k2 => ⟨_, _, rfl, rfl, 1 + n, rfl, by omega, by omega, ?_⟩⟩
    have kd2 : Kd d H H2 := k0.trans (Kd.but hd2 k2)
    refine for_range (fun i σ H' => Kd d H H' ∧ ∃ (vs : List V) (rs : List (Int × Int)) (t s : Option V), σ = [some (.ref d), some (.ref p), some (.ref l), t, s] ∧ H' l = some (.lst vs) ∧ F2 (RP K H') vs rs ∧ rs.length = i ∧ ∀ r ∈ rs, (0 < r.1 ∧ r.1 < 10 ^ 28) ∧ 0 < r.2 ∧ r.2 < 10 ^ 32) ⟨kd2, [], [], none, none, rfl, by rw [k2 l ld]; exact upd_same, .nil, rfl, fun r h => nomatch h⟩ ?_ ?_
    · rintro i _ H3 hi ⟨k3, vs, rs, t, s, rfl, hl3, hf3, hn, hr3⟩
      have hp3 := k3.1.sqT pd hp
      have pk : ∀ {σ : L2.St} {H : Hp}, σ[0]? = some (some (.ref d)) → σ[1]? = some (some (.ref p)) → SqT K H p (ns.map V.int) → Ei d (fun y => 0 < y ∧ y < 10 ^ 27) (tCall (spPickS K) [] E0 (tCons (tVar 0) (tCons (tVar 1) tNil))) σ H := fun e1 e2 h => (ei_pick e1 (pick_tup (K := K) e2 h pd) hne (by omega)).mono fun y hy => hb y hy
      refine sq_asgK (d := d) (Pr := fun v => ∃ y, v = .int y ∧ 0 < y ∧ y < 5 * 10 ^ 27) k3.2 (ei_0 (g := fun i j => i + j) (P := fun y => 0 < y ∧ y < 4 * 10 ^ 27) (R := fun y => 0 ≤ y ∧ y < 9) (ei_C (g := fun i j => i * j) (pk rfl rfl hp3) (ei_0 (g := fun i j => i + j) (S := fun y => 1 ≤ y ∧ y ≤ 4) (ei_c (P := fun y => y = 1) rfl) (ei_roll rfl (by decide) (by decide)) (fun a b h1 h2 => by omega)) (fun a b h1 h2 => .inr ⟨by omega, by omega⟩) (fun a b h1 h2 => ?_))
        (ei_rollV rfl ((ei_pick (K := K) rfl (pick_lst (K := K) (xs := [1, 3, 9]) (fun H1 _ => Evl.ea_cons Evl.ev_c (Evl.ea_cons Evl.ev_c (Evl.ea_cons Evl.ev_c Evl.ea_nil))) (by decide)) (by decide) (by decide)).mono fun y hy => ?_) (by decide)) (fun a b h1 h2 => by omega)) ?_
      · obtain ⟨b1, b2⟩ := h2
        have : b = 1 ∨ b = 2 ∨ b = 3 ∨ b = 4 := by omega
        rcases this with rfl | rfl | rfl | rfl <;> omega
      · have : y = 1 ∨ y = 3 ∨ y = 9 := by simpa using hy
        omega
      rintro _ H4 k4 ⟨room, rfl, m0, m1⟩
      have hp4 := k4.1.sqT pd hp3
      have R1 : Ei d (fun y => 0 < y ∧ y < 10 ^ 28) (tOp (rI0 fun i j => V.int (i + j)) (tVar 4) (tOp (rI CMul fun i j => V.int (i * j)) (tCall spRoll [] E0 (tCons (tVar 0) (tCons (tC (V.int 2)) tNil))) (tCall (spPickS K) [] E0 (tCons (tVar 0) (tCons (tVar 1) tNil))))) [some (.ref d), some (.ref p), some (.ref l), some (.int (0 + (i : Int))), some (.int room)] H4 :=
        ei_0 (g := fun i j => i + j) (P := fun y => y = room) (R := fun y => 0 ≤ y ∧ y < 10 ^ 27) (ei_v rfl rfl) (ei_C (g := fun i j => i * j) (ei_roll rfl (by decide) (by decide)) (pk rfl rfl hp4) (fun a b h1 h2 => .inl ⟨by omega, by omega⟩) (fun a b h1 h2 => by
          obtain ⟨b1, b2⟩ := h1
          have : a = 0 ∨ a = 1 := by omega
          rcases this with rfl | rfl <;> omega)) (fun a b h1 h2 => by omega)
      have ndl : ∀ {H' : Hp}, Dice H' d → l ≠ d := fun _ => ld
      have hnl : H l = none := nl
      refine ⟨_, rfl, ?_⟩
      refine ⟨.inl ⟨rfl, vs, SqL.of (k4.1 l _ ld hl3)⟩, ?_⟩
      refine R1 H4 (Kd.refl k4.2) _ fun v H5 k5 ⟨y, e, y0, y1⟩ => ?_
      subst e
      refine ei_great rfl H5 (Kd.refl k5.2) _ fun v H6 k6 ⟨m, e, g0, g1⟩ => ?_
      subst e
      refine ⟨(show 2 ≤ sizeLine by decide), fun u nu => ?_⟩
      have k46 := (k4.trans (k5.trans k6))
      have k47 : Kd d H3 (upd H6 u (.tup [.int y, .int m])) := k46.to (Evl.Ex.new nu)
      have hl7 := k47.1 l _ ld hl3
      refine ⟨l, vs, _, rfl, rfl, hl7, ?_, ?_⟩
      · rw [hf3.len, hn]
        refine Nat.lt_of_lt_of_le (show i < 100 by omega) (show 100 ≤ sizeLine by decide)
      · refine ⟨⟨Kp.mut (k3.trans k47).1 hnl, k47.2.put ld⟩, vs ++ [.ref u], rs ++ [(y, m)], _, _, rfl, upd_same, ?_, by rw [List.length_append, hn]; rfl, fun r hr => ?_⟩
        · exact ((hf3.imp fun x b r => r.kd k3.2 k47).app (.cons ⟨u, rfl, SqT.of upd_same⟩ .nil)).imp fun x b r => RP.upd hl7 r
        · rcases List.mem_append.mp hr with h | h
          · exact hr3 r h
          · rw [List.mem_singleton.mp h]
            exact ⟨⟨y0, y1⟩, by omega, by omega⟩
    · rintro _ H3 ⟨k3, vs, rs, t, s, rfl, hl3, hf3, hn, hr3⟩
      exact ⟨.ref l, rfl, q l vs rs H3 k3 ld nl hl3 hf3 (fun e => by rw [e] at hn; have : (0 : Nat) = (1 + n).toNat := hn; omega) ⟨by omega, hr3⟩⟩
theorem ok_space (B : Bl mg) (D : Df K mg "_law_space" s__law_space ["runs", "size"]) : Cg P w K mg base CX0 1 "_law_space" (spSpace K) := by
  refine cg_of D sc__law_space (fun vs H Q E h => ?_) (fun f cdv A fr s H vs Q E hr hgd h => ?_)
  · obtain ⟨l, s, ts, rs, rfl, _⟩ := h
    rfl
  · obtain ⟨l, sz, ts, rs, rfl, hl, hf, hln, hp, s0, s1, q⟩ := h
    refine ⟨_, (pss_one (ps_ret (pe_callB (cr_sum rfl) (by rfl) B.sum bt_sum (pa_cons (pe_lc (own := [("room", 2), ("number", 3)]) (g := (gTup K 2 (gCons (gName 2) (gCons (gName 3) gNil)))) rfl sc__law_space.nd (pi_list (pv 0)) (blkOk_by (own := [("room", 2), ("number", 3)]) (N := n__law_space) (sc := defScope s__law_space) (by decide +kernel)) (fun _ _ _ _ _ => (pg_tup (n := 2) rfl (pgs_cons (pg_name (i := 2) sc__law_space.nd rfl (by first | exact Or.inl rfl | exact Or.inr rfl)) (pgs_cons (pg_name (i := 3) sc__law_space.nd rfl (by first | exact Or.inl rfl | exact Or.inr rfl)) pgs_nil)))) (fun _ _ _ _ _ => pts_nil) (fun _ _ _ _ _ => (pe_op op_mulW (pv 3) (pe_op op_fdivW (pv 2) (pv 1))))) pa_nil)))), ?_⟩
    refine Evl.s_ret (Evl.ev_is (ev_sum (K := K) (ns := rs.map fun r => r.2 * (r.1 / sz)) (Ck.el_is (el_lcPV (K := K) (fun r => .int (r.2 * (r.1 / sz))) (Evl.ev_var rfl) hl hf (by omega) (fun _ _ => rfl) (fun r hr H1 e1 => ?_)) (by rw [List.map_map]; rfl))) rfl) q
    obtain ⟨p0, p1, p2⟩ := hp r hr
    exact ev_i (g := fun i j => .int (i * j)) (Evl.ev_var rfl) (ev_i (g := fun i j => .int (i / j)) (Evl.ev_var rfl) (Evl.ev_var rfl) (divW s0 s1)) (mul200 p2 (Nat.lt_of_le_of_lt (natAbs_div p0 s0) p1))
theorem ok_unl (B : Bl mg) (D : Df K mg "_law_units" s__law_units ["plain", "size"]) : Cg P w K mg base CX0 1 "_law_units" spUnL := by
  refine cg_of D sc__law_units (fun vs H Q E h => ?_) (fun f cdv A fr s H vs Q E hr hgd h => ?_)
  · obtain ⟨g, s, ps, rfl, _⟩ := h
    rfl
  · obtain ⟨g, sz, ps, rfl, hg, hc, s0, s1, hd, q⟩ := h
    refine ⟨_, (pss_one (ps_ret (pe_op op_fdivW (pe_callB (cr_sum rfl) (by rfl) B.sum bt_sum (pa_cons (pe_lock (pe_lc (own := [("other", 2)]) (g := (gName 2)) rfl sc__law_units.nd (pi_keys (pv 0)) (blkOk_by (own := [("other", 2)]) (N := n__law_units) (sc := defScope s__law_units) (by decide +kernel)) (fun _ _ _ _ _ => (pg_name (i := 2) sc__law_units.nd rfl (by first | exact Or.inl rfl | exact Or.inr rfl))) (fun _ _ _ _ _ => (pts_one (pt_cmpR op_ge (pv 2) (pv 1) (nomark _)))) (fun _ _ _ _ _ => (pe_op op_mulW (pv 2) (pe_dget (hu_of hr) (pv 0) (pv 2) (fun _ _ => rfl)))))) pa_nil)) (pv 1)))), ?_⟩
    have ln := hc.ln
    refine Evl.s_ret (Evl.ev_is (ev_i (g := fun i j => .int (i / j)) (ev_sum (K := K) (ns := (ps.filter fun p => decide (p.1 ≥ sz)).map fun p => p.1 * p.2) (Ck.el_is (el_lcK (fun i => decide ((ps.getD i (0, 0)).1 ≥ sz)) (fun i => .int ((ps.getD i (0, 0)).1 * (ps.getD i (0, 0)).2)) (fun _ => Evl.ev_var rfl) hg (by rw [List.length_map]; omega) (fun _ => rfl) (fun i k x H1 hk _ => ?_) (fun i k x H1 hk hf _ => ?_)) ?_)) (Evl.ev_var rfl) (divW s0 s1)) ?_) q
    · obtain ⟨p, hp, e, rfl, rfl⟩ := kc_at hk
      rw [e]
      exact Evl.et_test (ev_i0 (Evl.ev_var rfl) (Evl.ev_var rfl))
    · obtain ⟨p, hp, e, rfl, rfl⟩ := kc_at hk
      rw [e]
      obtain ⟨s1, s2⟩ := hc.ok p hp
      exact ev_i (g := fun i j => .int (i * j)) (Evl.ev_var rfl) (ev_dget (Evl.ev_var rfl) (Evl.ev_var rfl) (fun H2 e2 => (hf.to e2).dk) ((cnt_mem hc.nd).mp hp)) (mul200 (siz_nat s1) (siz_nat s2))
    · rw [List.length_map]
      exact given_if ps (fun p => decide (p.1 ≥ sz)) fun p => p.1 * p.2
    · rw [units_eq s0 (fun p hp => (siz_int (hc.ok p hp).1).1) hd, Int.mul_ediv_cancel_left _ (by omega)]
theorem ok_bars (B : Bl mg) (D : Df K mg "_law_bars" s__law_bars ["plain", "runs"]) (C__law_units : Cg P w K mg base CX0 1 "_law_units" spUnL) (C__law_space : Cg P w K mg base CX0 1 "_law_space" (spSpace K)) : Cg P w K mg base CX0 2 "_law_bars" (spBars K) := by
  refine cg_of D sc__law_bars (fun vs H Q E h => ?_) (fun f cdv A fr s H vs Q E hr hgd h => ?_)
  · obtain ⟨g, l, ps, qs, rs, vs, rfl, _⟩ := h
    rfl
  · obtain ⟨g, l, ps, qs, rs, vs, rfl, hg, ct, hperm, lc, hl, hf, hln, hb, q⟩ := h
    refine ⟨_, (pss_one (ps_ret (pe_lc (own := [("size", 2)]) (g := (gName 2)) rfl sc__law_bars.nd (pi_list (pe_callB (call_sortedDI rfl) (by rfl) B.sorted bt_sorted (pa_cons (pv 0) pa_nil))) (blkOk_by (own := [("size", 2)]) (N := n__law_bars) (sc := defScope s__law_bars) (by decide +kernel)) (fun _ _ _ _ _ => (pg_name (i := 2) sc__law_bars.nd rfl (by first | exact Or.inl rfl | exact Or.inr rfl))) (fun _ _ _ _ _ => (pts_one (pt_cmpR op_gt (pcg C__law_units hr hgd (pa_cons (pv 0) (pa_cons (pv 2) pa_nil))) (pcg C__law_space hr hgd (pa_cons (pv 1) (pa_cons (pv 2) pa_nil))) (nomark _)))) (fun _ _ _ _ _ => (pv 2))))), ?_⟩
    have ln := ct.ln
    have srt_q : srt ps = qs := asc_unique (srt_asc ct.nd) lc.asc ((srt_perm ps).trans hperm.symm)
    refine el_lcNL (K := K) (ns := qs.map Prod.fst) (fun s => decide (unt rs s < unt qs s)) (fun s => .int s) (Ck.el_is (el_sortD (Evl.ev_var (i := 0) rfl) (.inl hg) ct.nd (by omega)) (by rw [srt_q])) (by rw [List.length_map, hperm.length_eq]; omega) (fun _ => rfl) (fun s hs H1 e1 => ?_) (fun s hs _ H1 e1 => Evl.ev_var rfl) H (Evl.Ex.refl H) _ (fun t H1 _ e1 ht => q t H1 e1 ht)
    obtain ⟨s0, s1, _⟩ := cts_pos lc.ct s hs
    have u := unl_v (e1 _ _ hg) ct s0 s1 (fun x hx lt => lc.dv s hs x (hperm.mem_iff.mpr hx) lt)
    rw [unt_perm hperm.symm] at u
    exact Evl.et_test (ev_i0 (g := fun i j => .bl (decide (i > j))) (Evl.ev_call (Evl.ea_cons (Evl.ev_var rfl) (Evl.ea_cons (Evl.ev_var rfl) Evl.ea_nil)) u) (Evl.ev_call (vs := [.ref l, .int s]) (Evl.ea_cons (Evl.ev_var rfl) (Evl.ea_cons (Evl.ev_var rfl) Evl.ea_nil)) (fun H2 e2 Q q E => ⟨l, s, vs, rs, rfl, Evl.ex_l (e1.trans e2) hl, hf.imp fun x b r => r.ex (e1.trans e2), hln, hb, s0, s1, q⟩)))
theorem ok_madeG {CS : Addr} (B : Bl mg) (D : Df K mg "_law_made_store" s__law_made_store ["runs"]) (M_Store : Mkc P w K mg base 4 "Store" CS (spStoI K CS)) : Cg P w K mg base CX0 6 "_law_made_store" (spMadeG K CS) := by
  refine cg_of D sc__law_made_store (fun vs H Q E h => ?_) (fun f cdv A fr s H vs Q E hr hgd h => ?_)
  · obtain ⟨l, vs, rs, rfl, _⟩ := h
    rfl
  · obtain ⟨l, vs, rs, rfl, hl, hf, hln, hrn, q⟩ := h
    refine ⟨_, (pss_cons (ps_set (i := 1) sc__law_made_store.nd rfl (by first | exact Or.inl rfl | exact Or.inr rfl) (pe_op op_cat (pe_callTy call_list_of (by rfl) B.list bt_list (pa_cons (pv 0) pa_nil)) (pe_op op_rep (pe_lst (pa_cons pe_non pa_nil)) pe_int)))
    (pss_cons (ps_asg (pe_slice sl_list (pv 1) po_none (po_some pe_int)) (pg_lst (n := 8) rfl (pgs_cons (pg_name (i := 2) sc__law_made_store.nd rfl (by first | exact Or.inl rfl | exact Or.inr rfl)) (pgs_cons (pg_name (i := 3) sc__law_made_store.nd rfl (by first | exact Or.inl rfl | exact Or.inr rfl)) (pgs_cons (pg_name (i := 4) sc__law_made_store.nd rfl (by first | exact Or.inl rfl | exact Or.inr rfl)) (pgs_cons (pg_name (i := 5) sc__law_made_store.nd rfl (by first | exact Or.inl rfl | exact Or.inr rfl)) (pgs_cons (pg_name (i := 6) sc__law_made_store.nd rfl (by first | exact Or.inl rfl | exact Or.inr rfl)) (pgs_cons (pg_name (i := 7) sc__law_made_store.nd rfl (by first | exact Or.inl rfl | exact Or.inr rfl)) (pgs_cons (pg_name (i := 8) sc__law_made_store.nd rfl (by first | exact Or.inl rfl | exact Or.inr rfl)) (pgs_cons (pg_name (i := 9) sc__law_made_store.nd rfl (by first | exact Or.inl rfl | exact Or.inr rfl)) pgs_nil))))))))))
     (pss_cons (ps_if (pt_cmpR (op_eqD hr.units) (pv 0) (pe_lst pa_nil) (nomark _)) (pss_one (ps_ret (pmk0 M_Store hr))) pss_nil)
      (pss_cons (ps_if (pt_cmpR op_eq (pe_callB call_len_seq (by rfl) B.len bt_len (pa_cons (pv 0) pa_nil)) pe_int (nomark _)) (pss_one (ps_ret (pmk M_Store hr (pa_cons (pv 2) pa_nil)))) pss_nil)
       (pss_cons (ps_if (pt_cmpR op_eq (pe_callB call_len_seq (by rfl) B.len bt_len (pa_cons (pv 0) pa_nil)) pe_int (nomark _)) (pss_one (ps_ret (pmk M_Store hr (pa_cons (pv 2) (pa_cons (pv 3) pa_nil))))) pss_nil)
        (pss_cons (ps_if (pt_cmpR op_eq (pe_callB call_len_seq (by rfl) B.len bt_len (pa_cons (pv 0) pa_nil)) pe_int (nomark _)) (pss_one (ps_ret (pmk M_Store hr (pa_cons (pv 2) (pa_cons (pv 3) (pa_cons (pv 4) pa_nil)))))) pss_nil)
         (pss_cons (ps_if (pt_cmpR op_eq (pe_callB call_len_seq (by rfl) B.len bt_len (pa_cons (pv 0) pa_nil)) pe_int (nomark _)) (pss_one (ps_ret (pmk M_Store hr (pa_cons (pv 2) (pa_cons (pv 3) (pa_cons (pv 4) (pa_cons (pv 5) pa_nil))))))) pss_nil)
          (pss_cons (ps_if (pt_cmpR op_eq (pe_callB call_len_seq (by rfl) B.len bt_len (pa_cons (pv 0) pa_nil)) pe_int (nomark _)) (pss_one (ps_ret (pmk M_Store hr (pa_cons (pv 2) (pa_cons (pv 3) (pa_cons (pv 4) (pa_cons (pv 5) (pa_cons (pv 6) pa_nil)))))))) pss_nil)
           (pss_cons (ps_if (pt_cmpR op_eq (pe_callB call_len_seq (by rfl) B.len bt_len (pa_cons (pv 0) pa_nil)) pe_int (nomark _)) (pss_one (ps_ret (pmk M_Store hr (pa_cons (pv 2) (pa_cons (pv 3) (pa_cons (pv 4) (pa_cons (pv 5) (pa_cons (pv 6) (pa_cons (pv 7) pa_nil))))))))) pss_nil)
            (pss_cons (ps_if (pt_cmpR op_eq (pe_callB call_len_seq (by rfl) B.len bt_len (pa_cons (pv 0) pa_nil)) pe_int (nomark _)) (pss_one (ps_ret (pmk M_Store hr (pa_cons (pv 2) (pa_cons (pv 3) (pa_cons (pv 4) (pa_cons (pv 5) (pa_cons (pv 6) (pa_cons (pv 7) (pa_cons (pv 8) pa_nil)))))))))) pss_nil)
             (pss_one (ps_ret (pmk M_Store hr (pa_cons (pv 2) (pa_cons (pv 3) (pa_cons (pv 4) (pa_cons (pv 5) (pa_cons (pv 6) (pa_cons (pv 7) (pa_cons (pv 8) (pa_cons (pv 9) pa_nil))))))))))))))))))))), ?_⟩
    have vl := hf.len
    refine Evl.q_asgL (xs := vs ++ List.replicate 8 V.non) (el_catL (el_copy (K := K) (Evl.ev_var rfl) hl) (Ck.el_is (el_rep (Evl.el_lst (Evl.ea_cons Evl.ev_c Evl.ea_nil) (by decide)) (n := 8) Evl.ev_c (by decide) (by decide) (by decide)) (ys := List.replicate 8 V.non) rfl) (by rw [List.length_replicate]; omega)) (fun r H1 nr e1 hr1 => ?_)
    have E1 := e1
    have emp : ∀ H4, Evl.Ex H H4 → ∀ σ : L2.St, σ[0]? = some (some (.ref l)) → Evl.EvT (tTest (tOp (rEqD K) (tVar 0) (tLst tNil))) σ H4 (decide (rs = [])) := fun H4 e4 σ hv => Evl.et_test (Evl.ev_is (ev_eqD (K := K) (ed_of (Evl.ev_var hv) (.lst (Evl.ex_l e4 hl) (dpa_rns (hf.imp fun x b r => r.ex e4)))) (e := .list []) (ed_lst ed_nil) (shaped_lrs rs) (by decide +kernel)) (by
      have z := eqv_prs rs []
      simp only [List.map_nil] at z
      simp only [PyData.eqv, z]))
    have len : ∀ H4, Evl.Ex H H4 → ∀ (σ : L2.St) (k : Nat), σ[0]? = some (some (.ref l)) → Evl.EvT (tTest (tOp rEq (tCB (fun xs H Q => ∃ p ys, xs = [V.ref p] ∧ (SqL K H p ys ∨ SqT K H p ys) ∧ Q (.int ys.length) H) (tCons (tVar 0) tNil)) (tC (.int (k : Int))))) σ H4 (decide (vs.length = k)) := fun H4 e4 σ k hv => Evl.et_test (Evl.ev_is (ev_eq (ev_lenL (Evl.ev_var hv) (Evl.ex_l e4 hl)) Evl.ev_c rfl) (congrArg V.bl (decide_eq_decide.mpr ⟨fun h => Int.ofNat.inj (V.int.inj h), fun h => by rw [h]⟩)))
    clear e1
    rcases vs with _ | ⟨v1, _ | ⟨v2, _ | ⟨v3, _ | ⟨v4, _ | ⟨v5, _ | ⟨v6, _ | ⟨v7, _ | ⟨v8, _ | ⟨v9, vs⟩⟩⟩⟩⟩⟩⟩⟩⟩
    · refine Evl.el_sl (K := K) (Evl.ev_var rfl) Evl.eo_none (Evl.eo_some Evl.ev_c) (SqL.of hr1) H1 (Evl.Ex.refl H1) _ fun p H2 n2 e2 hp => ?_
      have hp : H2 p = some (.lst [V.non, V.non, V.non, V.non, V.non, V.non, V.non, V.non]) := hp
      refine ⟨p, _, rfl, SqL.of hp, rfl, .non, _, rfl, .non, _, rfl, .non, _, rfl, .non, _, rfl, .non, _, rfl, .non, _, rfl, .non, _, rfl, .non, _, rfl, rfl, ?_⟩
      have X0 := E1.trans e2
      obtain rfl : rs = [] := List.eq_nil_of_length_eq_zero vl.symm
      refine Evl.q_when (b := true) (emp _ X0 _ rfl) (fun _ G0 g0 => ?_) (fun z => nomatch z)
      exact mk_sto0 (K := K) fun a H9 e9 hs => q a H9 (X0.trans (g0.trans e9)) hs
    · refine Evl.el_sl (K := K) (Evl.ev_var rfl) Evl.eo_none (Evl.eo_some Evl.ev_c) (SqL.of hr1) H1 (Evl.Ex.refl H1) _ fun p H2 n2 e2 hp => ?_
      have hp : H2 p = some (.lst [v1, V.non, V.non, V.non, V.non, V.non, V.non, V.non]) := hp
      refine ⟨p, _, rfl, SqL.of hp, rfl, v1, _, rfl, .non, _, rfl, .non, _, rfl, .non, _, rfl, .non, _, rfl, .non, _, rfl, .non, _, rfl, .non, _, rfl, rfl, ?_⟩
      have X0 := E1.trans e2
      refine Evl.q_when (b := false) (Evl.et_is (emp _ X0 _ rfl) (decide_eq_false fun z => by rw [z] at vl; cases vl)) (fun z => nomatch z) (fun _ G0 g0 => ?_)
      have X1 := X0.trans g0
      refine Evl.q_when (b := true) (len _ X1 _ 1 rfl) (fun _ G1 g1 => ?_) (fun z => nomatch z)
      have X2 := X1.trans g1
      exact mk_stoR (K := K) (Evl.ea_cons (Evl.ev_var rfl) Evl.ea_nil) (hf.imp fun x b r => r.ex X2) hrn fun a H9 e9 hs => q a H9 (X2.trans e9) hs
    · refine Evl.el_sl (K := K) (Evl.ev_var rfl) Evl.eo_none (Evl.eo_some Evl.ev_c) (SqL.of hr1) H1 (Evl.Ex.refl H1) _ fun p H2 n2 e2 hp => ?_
      have hp : H2 p = some (.lst [v1, v2, V.non, V.non, V.non, V.non, V.non, V.non]) := hp
      refine ⟨p, _, rfl, SqL.of hp, rfl, v1, _, rfl, v2, _, rfl, .non, _, rfl, .non, _, rfl, .non, _, rfl, .non, _, rfl, .non, _, rfl, .non, _, rfl, rfl, ?_⟩
      have X0 := E1.trans e2
      refine Evl.q_when (b := false) (Evl.et_is (emp _ X0 _ rfl) (decide_eq_false fun z => by rw [z] at vl; cases vl)) (fun z => nomatch z) (fun _ G0 g0 => ?_)
      have X1 := X0.trans g0
      refine Evl.q_when (b := false) (len _ X1 _ 1 rfl) (fun z => nomatch z) (fun _ G1 g1 => ?_)
      have X2 := X1.trans g1
      refine Evl.q_when (b := true) (len _ X2 _ 2 rfl) (fun _ G2 g2 => ?_) (fun z => nomatch z)
      have X3 := X2.trans g2
      exact mk_stoR (K := K) (Evl.ea_cons (Evl.ev_var rfl) (Evl.ea_cons (Evl.ev_var rfl) Evl.ea_nil)) (hf.imp fun x b r => r.ex X3) hrn fun a H9 e9 hs => q a H9 (X3.trans e9) hs
    · refine Evl.el_sl (K := K) (Evl.ev_var rfl) Evl.eo_none (Evl.eo_some Evl.ev_c) (SqL.of hr1) H1 (Evl.Ex.refl H1) _ fun p H2 n2 e2 hp => ?_
      have hp : H2 p = some (.lst [v1, v2, v3, V.non, V.non, V.non, V.non, V.non]) := hp
      refine ⟨p, _, rfl, SqL.of hp, rfl, v1, _, rfl, v2, _, rfl, v3, _, rfl, .non, _, rfl, .non, _, rfl, .non, _, rfl, .non, _, rfl, .non, _, rfl, rfl, ?_⟩
      have X0 := E1.trans e2
      refine Evl.q_when (b := false) (Evl.et_is (emp _ X0 _ rfl) (decide_eq_false fun z => by rw [z] at vl; cases vl)) (fun z => nomatch z) (fun _ G0 g0 => ?_)
      have X1 := X0.trans g0
      refine Evl.q_when (b := false) (len _ X1 _ 1 rfl) (fun z => nomatch z) (fun _ G1 g1 => ?_)
      have X2 := X1.trans g1
      refine Evl.q_when (b := false) (len _ X2 _ 2 rfl) (fun z => nomatch z) (fun _ G2 g2 => ?_)
      have X3 := X2.trans g2
      refine Evl.q_when (b := true) (len _ X3 _ 3 rfl) (fun _ G3 g3 => ?_) (fun z => nomatch z)
      have X4 := X3.trans g3
      exact mk_stoR (K := K) (Evl.ea_cons (Evl.ev_var rfl) (Evl.ea_cons (Evl.ev_var rfl) (Evl.ea_cons (Evl.ev_var rfl) Evl.ea_nil))) (hf.imp fun x b r => r.ex X4) hrn fun a H9 e9 hs => q a H9 (X4.trans e9) hs
    · refine Evl.el_sl (K := K) (Evl.ev_var rfl) Evl.eo_none (Evl.eo_some Evl.ev_c) (SqL.of hr1) H1 (Evl.Ex.refl H1) _ fun p H2 n2 e2 hp => ?_
      have hp : H2 p = some (.lst [v1, v2, v3, v4, V.non, V.non, V.non, V.non]) := hp
      refine ⟨p, _, rfl, SqL.of hp, rfl, v1, _, rfl, v2, _, rfl, v3, _, rfl, v4, _, rfl, .non, _, rfl, .non, _, rfl, .non, _, rfl, .non, _, rfl, rfl, ?_⟩
      have X0 := E1.trans e2
      refine Evl.q_when (b := false) (Evl.et_is (emp _ X0 _ rfl) (decide_eq_false fun z => by rw [z] at vl; cases vl)) (fun z => nomatch z) (fun _ G0 g0 => ?_)
      have X1 := X0.trans g0
      refine Evl.q_when (b := false) (len _ X1 _ 1 rfl) (fun z => nomatch z) (fun _ G1 g1 => ?_)
      have X2 := X1.trans g1
      refine Evl.q_when (b := false) (len _ X2 _ 2 rfl) (fun z => nomatch z) (fun _ G2 g2 => ?_)
      have X3 := X2.trans g2
      refine Evl.q_when (b := false) (len _ X3 _ 3 rfl) (fun z => nomatch z) (fun _ G3 g3 => ?_)
      have X4 := X3.trans g3
      refine Evl.q_when (b := true) (len _ X4 _ 4 rfl) (fun _ G4 g4 => ?_) (fun z => nomatch z)
      have X5 := X4.trans g4
      exact mk_stoR (K := K) (Evl.ea_cons (Evl.ev_var rfl) (Evl.ea_cons (Evl.ev_var rfl) (Evl.ea_cons (Evl.ev_var rfl) (Evl.ea_cons (Evl.ev_var rfl) Evl.ea_nil)))) (hf.imp fun x b r => r.ex X5) hrn fun a H9 e9 hs => q a H9 (X5.trans e9) hs
    · refine Evl.el_sl (K := K) (Evl.ev_var rfl) Evl.eo_none (Evl.eo_some Evl.ev_c) (SqL.of hr1) H1 (Evl.Ex.refl H1) _ fun p H2 n2 e2 hp => ?_
      have hp : H2 p = some (.lst [v1, v2, v3, v4, v5, V.non, V.non, V.non]) := hp
      refine ⟨p, _, rfl, SqL.of hp, rfl, v1, _, rfl, v2, _, rfl, v3, _, rfl, v4, _, rfl, v5, _, rfl, .non, _, rfl, .non, _, rfl, .non, _, rfl, rfl, ?_⟩
      have X0 := E1.trans e2
      refine Evl.q_when (b := false) (Evl.et_is (emp _ X0 _ rfl) (decide_eq_false fun z => by rw [z] at vl; cases vl)) (fun z => nomatch z) (fun _ G0 g0 => ?_)
      have X1 := X0.trans g0
      refine Evl.q_when (b := false) (len _ X1 _ 1 rfl) (fun z => nomatch z) (fun _ G1 g1 => ?_)
      have X2 := X1.trans g1
      refine Evl.q_when (b := false) (len _ X2 _ 2 rfl) (fun z => nomatch z) (fun _ G2 g2 => ?_)
      have X3 := X2.trans g2
      refine Evl.q_when (b := false) (len _ X3 _ 3 rfl) (fun z => nomatch z) (fun _ G3 g3 => ?_)
      have X4 := X3.trans g3
      refine Evl.q_when (b := false) (len _ X4 _ 4 rfl) (fun z => nomatch z) (fun _ G4 g4 => ?_)
      have X5 := X4.trans g4
      refine Evl.q_when (b := true) (len _ X5 _ 5 rfl) (fun _ G5 g5 => ?_) (fun z => nomatch z)
      have X6 := X5.trans g5
      exact mk_stoR (K := K) (Evl.ea_cons (Evl.ev_var rfl) (Evl.ea_cons (Evl.ev_var rfl) (Evl.ea_cons (Evl.ev_var rfl) (Evl.ea_cons (Evl.ev_var rfl) (Evl.ea_cons (Evl.ev_var rfl) Evl.ea_nil))))) (hf.imp fun x b r => r.ex X6) hrn fun a H9 e9 hs => q a H9 (X6.trans e9) hs
    · refine Evl.el_sl (K := K) (Evl.ev_var rfl) Evl.eo_none (Evl.eo_some Evl.ev_c) (SqL.of hr1) H1 (Evl.Ex.refl H1) _ fun p H2 n2 e2 hp => ?_
      have hp : H2 p = some (.lst [v1, v2, v3, v4, v5, v6, V.non, V.non]) := hp
      refine ⟨p, _, rfl, SqL.of hp, rfl, v1, _, rfl, v2, _, rfl, v3, _, rfl, v4, _, rfl, v5, _, rfl, v6, _, rfl, .non, _, rfl, .non, _, rfl, rfl, ?_⟩
      have X0 := E1.trans e2
      refine Evl.q_when (b := false) (Evl.et_is (emp _ X0 _ rfl) (decide_eq_false fun z => by rw [z] at vl; cases vl)) (fun z => nomatch z) (fun _ G0 g0 => ?_)
      have X1 := X0.trans g0
      refine Evl.q_when (b := false) (len _ X1 _ 1 rfl) (fun z => nomatch z) (fun _ G1 g1 => ?_)
      have X2 := X1.trans g1
      refine Evl.q_when (b := false) (len _ X2 _ 2 rfl) (fun z => nomatch z) (fun _ G2 g2 => ?_)
      have X3 := X2.trans g2
      refine Evl.q_when (b := false) (len _ X3 _ 3 rfl) (fun z => nomatch z) (fun _ G3 g3 => ?_)
      have X4 := X3.trans g3
      refine Evl.q_when (b := false) (len _ X4 _ 4 rfl) (fun z => nomatch z) (fun _ G4 g4 => ?_)
      have X5 := X4.trans g4
      refine Evl.q_when (b := false) (len _ X5 _ 5 rfl) (fun z => nomatch z) (fun _ G5 g5 => ?_)
      have X6 := X5.trans g5
      refine Evl.q_when (b := true) (len _ X6 _ 6 rfl) (fun _ G6 g6 => ?_) (fun z => nomatch z)
      have X7 := X6.trans g6
      exact mk_stoR (K := K) (Evl.ea_cons (Evl.ev_var rfl) (Evl.ea_cons (Evl.ev_var rfl) (Evl.ea_cons (Evl.ev_var rfl) (Evl.ea_cons (Evl.ev_var rfl) (Evl.ea_cons (Evl.ev_var rfl) (Evl.ea_cons (Evl.ev_var rfl) Evl.ea_nil)))))) (hf.imp fun x b r => r.ex X7) hrn fun a H9 e9 hs => q a H9 (X7.trans e9) hs
    · refine Evl.el_sl (K := K) (Evl.ev_var rfl) Evl.eo_none (Evl.eo_some Evl.ev_c) (SqL.of hr1) H1 (Evl.Ex.refl H1) _ fun p H2 n2 e2 hp => ?_
      have hp : H2 p = some (.lst [v1, v2, v3, v4, v5, v6, v7, V.non]) := hp
      refine ⟨p, _, rfl, SqL.of hp, rfl, v1, _, rfl, v2, _, rfl, v3, _, rfl, v4, _, rfl, v5, _, rfl, v6, _, rfl, v7, _, rfl, .non, _, rfl, rfl, ?_⟩
      have X0 := E1.trans e2
      refine Evl.q_when (b := false) (Evl.et_is (emp _ X0 _ rfl) (decide_eq_false fun z => by rw [z] at vl; cases vl)) (fun z => nomatch z) (fun _ G0 g0 => ?_)
      have X1 := X0.trans g0
      refine Evl.q_when (b := false) (len _ X1 _ 1 rfl) (fun z => nomatch z) (fun _ G1 g1 => ?_)
      have X2 := X1.trans g1
      refine Evl.q_when (b := false) (len _ X2 _ 2 rfl) (fun z => nomatch z) (fun _ G2 g2 => ?_)
      have X3 := X2.trans g2
      refine Evl.q_when (b := false) (len _ X3 _ 3 rfl) (fun z => nomatch z) (fun _ G3 g3 => ?_)
      have X4 := X3.trans g3
      refine Evl.q_when (b := false) (len _ X4 _ 4 rfl) (fun z => nomatch z) (fun _ G4 g4 => ?_)
      have X5 := X4.trans g4
      refine Evl.q_when (b := false) (len _ X5 _ 5 rfl) (fun z => nomatch z) (fun _ G5 g5 => ?_)
      have X6 := X5.trans g5
      refine Evl.q_when (b := false) (len _ X6 _ 6 rfl) (fun z => nomatch z) (fun _ G6 g6 => ?_)
      have X7 := X6.trans g6
      refine Evl.q_when (b := true) (len _ X7 _ 7 rfl) (fun _ G7 g7 => ?_) (fun z => nomatch z)
      have X8 := X7.trans g7
      exact mk_stoR (K := K) (Evl.ea_cons (Evl.ev_var rfl) (Evl.ea_cons (Evl.ev_var rfl) (Evl.ea_cons (Evl.ev_var rfl) (Evl.ea_cons (Evl.ev_var rfl) (Evl.ea_cons (Evl.ev_var rfl) (Evl.ea_cons (Evl.ev_var rfl) (Evl.ea_cons (Evl.ev_var rfl) Evl.ea_nil))))))) (hf.imp fun x b r => r.ex X8) hrn fun a H9 e9 hs => q a H9 (X8.trans e9) hs
    · refine Evl.el_sl (K := K) (Evl.ev_var rfl) Evl.eo_none (Evl.eo_some Evl.ev_c) (SqL.of hr1) H1 (Evl.Ex.refl H1) _ fun p H2 n2 e2 hp => ?_
      have hp : H2 p = some (.lst [v1, v2, v3, v4, v5, v6, v7, v8]) := hp
      refine ⟨p, _, rfl, SqL.of hp, rfl, v1, _, rfl, v2, _, rfl, v3, _, rfl, v4, _, rfl, v5, _, rfl, v6, _, rfl, v7, _, rfl, v8, _, rfl, rfl, ?_⟩
      have X0 := E1.trans e2
      refine Evl.q_when (b := false) (Evl.et_is (emp _ X0 _ rfl) (decide_eq_false fun z => by rw [z] at vl; cases vl)) (fun z => nomatch z) (fun _ G0 g0 => ?_)
      have X1 := X0.trans g0
      refine Evl.q_when (b := false) (len _ X1 _ 1 rfl) (fun z => nomatch z) (fun _ G1 g1 => ?_)
      have X2 := X1.trans g1
      refine Evl.q_when (b := false) (len _ X2 _ 2 rfl) (fun z => nomatch z) (fun _ G2 g2 => ?_)
      have X3 := X2.trans g2
      refine Evl.q_when (b := false) (len _ X3 _ 3 rfl) (fun z => nomatch z) (fun _ G3 g3 => ?_)
      have X4 := X3.trans g3
      refine Evl.q_when (b := false) (len _ X4 _ 4 rfl) (fun z => nomatch z) (fun _ G4 g4 => ?_)
      have X5 := X4.trans g4
      refine Evl.q_when (b := false) (len _ X5 _ 5 rfl) (fun z => nomatch z) (fun _ G5 g5 => ?_)
      have X6 := X5.trans g5
      refine Evl.q_when (b := false) (len _ X6 _ 6 rfl) (fun z => nomatch z) (fun _ G6 g6 => ?_)
      have X7 := X6.trans g6
      refine Evl.q_when (b := false) (len _ X7 _ 7 rfl) (fun z => nomatch z) (fun _ G7 g7 => ?_)
      have X8 := X7.trans g7
      exact mk_stoR (K := K) (Evl.ea_cons (Evl.ev_var rfl) (Evl.ea_cons (Evl.ev_var rfl) (Evl.ea_cons (Evl.ev_var rfl) (Evl.ea_cons (Evl.ev_var rfl) (Evl.ea_cons (Evl.ev_var rfl) (Evl.ea_cons (Evl.ev_var rfl) (Evl.ea_cons (Evl.ev_var rfl) (Evl.ea_cons (Evl.ev_var rfl) Evl.ea_nil)))))))) (hf.imp fun x b r => r.ex X8) hrn fun a H9 e9 hs => q a H9 (X8.trans e9) hs
    · simp only [List.length_cons] at vl
      omega
theorem ok_lip (B : Bl mg) (D : Df K mg "_law_is_part" s__law_is_part ["part", "plain"]) : Cg P w K mg base CX0 1 "_law_is_part" spLip := by
  refine cg_of D sc__law_is_part (fun vs H Q E h => ?_) (fun f cdv A fr s H vs Q E hr hgd h => ?_)
  · obtain ⟨d, g, qs, ps, rfl, _⟩ := h
    rfl
  · obtain ⟨d, g, qs, ps, rfl, hd, hg, hc, q⟩ := h
    refine ⟨_, (pss_one (ps_ret (pe_cmpR (op_eqD hr.units) (pe_lock (pe_lc (own := [("size", 2)]) (g := (gName 2)) rfl sc__law_is_part.nd (pi_keys (pv 0)) (blkOk_by (own := [("size", 2)]) (N := n__law_is_part) (sc := defScope s__law_is_part) (by decide +kernel)) (fun _ _ _ _ _ => (pg_name (i := 2) sc__law_is_part.nd rfl (by first | exact Or.inl rfl | exact Or.inr rfl))) (fun _ _ _ _ _ => (pts_one (pt_cmpR op_gt (pe_dget (hu_of hr) (pv 0) (pv 2) (fun _ _ => rfl)) (pe_dget2 (hu_of hr) (pv 1) (pv 2) pe_int ⟨rfl, rfl, rfl, rfl⟩) (nomark _)))) (fun _ _ _ _ _ => (pv 2)))) (pe_lst pa_nil) (nomark _)))), ?_⟩
    have ln := hc.ln
    refine Evl.s_ret (Evl.ev_is (ev_eqD (K := K) (d := .list (((qs.filter fun p => decide ((cnt ps p.1).getD 0 < p.2)).map Prod.fst).map PyData.int)) (e := .list [])
      (ed_ofL (xs := ((qs.filter fun p => decide ((cnt ps p.1).getD 0 < p.2)).map Prod.fst).map V.int) (Ck.el_is (el_lcK (fun i => decide ((cnt ps (qs.getD i (0, 0)).1).getD 0 < (qs.getD i (0, 0)).2)) (fun i => .int (qs.getD i (0, 0)).1) (fun _ => Evl.ev_var rfl) hd (by rw [List.length_map]; omega) (fun _ => rfl) (fun i k x H2 hk hf => ?_) (fun i k x H2 hk hf _ => ?_)) (by rw [List.length_map]; exact given_if qs (fun p => decide ((cnt ps p.1).getD 0 < p.2)) Prod.fst)) (fun _ _ => dpa_lints _))
      (ed_lst ed_nil) (shaped_lints _) (shaped_lints [])) (by rw [← part_bad]; exact congrArg V.bl (eqv_lints _ []))) q
    · obtain ⟨p, hp, e, rfl, rfl⟩ := kc_at hk
      rw [e]
      refine Evl.et_test (ev_i0 (g := fun i j => .bl (decide (j < i))) (ev_dget (Evl.ev_var rfl) (Evl.ev_var rfl) (fun H3 e3 => (hf.to e3).dk) ((cnt_mem hc.nd).mp hp)) (ev_dget2 (c := 0) (Evl.ev_var rfl) (Evl.ev_var rfl) Evl.ev_c ?_))
      by_cases z : g = d
      · subst z
        have e2 : qs.map kc = ps.map kc := by
          rw [hd] at hg
          exact HO.dK.inj (Option.some.inj hg)
        have z2 := hf.dk
        rw [e2] at z2
        exact z2
      · exact .inl (hf.1 g _ z hg)
    · obtain ⟨p, hp, e, rfl, rfl⟩ := kc_at hk
      rw [e]
      exact Evl.ev_var rfl
theorem eqv_runs (rs ss : List (Int × Int)) : PyData.eqv (.list (rs.map prD)) (.list (ss.map prD)) = decide (rs = ss) := by
  have z := eqv_rns rs ss
  unfold rnD at z
  rw [← z]
  rfl
theorem shaped_runs (rs : List (Int × Int)) : SeqAt.shaped (.list (rs.map prD)) = true := by
  have z := shaped_rns rs
  unfold rnD at z
  exact z
theorem ed_runs {te : TE} {σ : L2.St} {H : Hp} {l : Addr} {xs : List V} {rs : List (Int × Int)} (h : Evl.Ev te σ H (.ref l)) (hl : SqL K H l xs) (hf : F2 (RP K H) xs rs) : Ed K te σ H (.list (rs.map prD)) := ed_of h (.lst hl (dpa_rns hf))
def spMrg (K : PySem.W.Frag) : Sp := fun vs H Q _ => ∃ l xs rs, vs = [.ref l] ∧ SqL K H l xs ∧ F2 (RP K H) xs rs ∧ rs.length ≤ 1000 ∧ ∀ p ys H', H p = none → Evl.Ex H H' → H' p = some (.lst ys) → F2 (RP K H') ys (jr rs) → Q (.ref p) H'
theorem ok_mrg (B : Bl mg) (D : Df K mg "_law_merged" s__law_merged ["runs"]) : Cg P w K mg base CX0 1 "_law_merged" (spMrg K) := by
  refine cg_of D sc__law_merged (fun vs H Q E h => ?_) (fun f cdv A fr s H vs Q E hr hgd h => ?_)
  · obtain ⟨l, xs, rs, rfl, _⟩ := h
    rfl
  · obtain ⟨t, xs, rs, rfl, ht, hf, hl, q⟩ := h
    refine ⟨_, (pss_cons (ps_set (i := 1) sc__law_merged.nd rfl (by first | exact Or.inl rfl | exact Or.inr rfl) (pe_lst pa_nil))
    (pss_cons (ps_for PassesOwn.never rfl (pi_list (pv 0)) (pg_tup (n := 2) rfl (pgs_cons (pg_name (i := 2) sc__law_merged.nd rfl (by first | exact Or.inl rfl | exact Or.inr rfl)) (pgs_cons (pg_name (i := 3) sc__law_merged.nd rfl (by first | exact Or.inl rfl | exact Or.inr rfl)) pgs_nil))) (pss_one (ps_if (pw_and (pt_cmpR (op_neD hr.units) (pv 1) (pe_lst pa_nil) (nomark _)) (pw_and1 (pt_cmpR op_eq (pe_ix ix_tup (pe_ix ix_list (pv 1) (pe_un un_neg pe_int) (fun _ _ => rfl)) pe_int (fun _ _ => rfl)) (pv 2) (nomark _)))).pt (pss_one (ps_asg (pe_tup (pa_cons (pv 2) (pa_cons (pe_op op_add (pe_ix ix_tup (pe_ix ix_list (pv 1) (pe_un un_neg pe_int) (fun _ _ => rfl)) pe_int (fun _ _ => rfl)) (pv 3)) pa_nil))) (pg_sub (pv 1) (pe_un un_neg pe_int) set_list))) (pss_one (ps_expr (pe_bm PySem.F.plainAttrs_list PySem.F.slot_list_append PySem.F.type_list_append mt_append (pv 1) (pa_cons (pe_tup (pa_cons (pv 2) (pa_cons (pv 3) pa_nil))) pa_nil)))))))
     (pss_one (ps_ret (pv 1))))), ?_⟩
    refine Evl.q_asgL (Evl.el_lst Evl.ea_nil (by decide)) (fun l H1 nl E1 h1 => ?_)
    refine q_fall (fun σ' H' => Evl.Ex H H' ∧ ∃ (vs : List V) (x2 x3 : Option V), σ' = [some (.ref t), some (.ref l), x2, x3] ∧ H' l = some (.lst vs) ∧ F2 (RP K H') vs (jr rs)) ?_ (fun hz => ?_)
    · rintro σ' H' ⟨e', vs, x2, x3, rfl, hl', hf'⟩
      exact ⟨_, rfl, q l vs H' nl e' hl' hf'⟩
    refine Evl.s_forL (K := K) (xs := xs) (Evl.ev_var rfl) (Evl.ex_l E1 ht) (fun i σ' H' => Evl.Ex H H' ∧ ∃ (vs : List V) (x2 x3 : Option V), σ' = [some (.ref t), some (.ref l), x2, x3] ∧ H' l = some (.lst vs) ∧ F2 (RP K H') vs (jr (rs.take i))) (fun H2 e2 => ⟨E1.trans e2, [], _, _, rfl, e2 _ _ h1, .nil⟩) (fun i σ' H' _ h => Evl.ex_l h.1 ht) ?_ (fun σ' H' h => hz σ' H' ⟨h.1, by
      obtain ⟨_, vs, x2, x3, e, a, b⟩ := h
      rw [List.take_of_length_le (by rw [← hf.len]; exact Nat.le_refl _)] at b
      exact ⟨vs, x2, x3, e, a, b⟩⟩)
    rintro i x σ' H3 hxi ⟨e3, vs, x2, x3, rfl, hl3, hf3⟩
    obtain ⟨r, hri, hx⟩ := F2.at (hf.imp fun x b r => r.ex e3) hxi
    obtain ⟨hi2, rfl⟩ := List.getElem?_eq_some_iff.mp hri
    have tk : jr (rs.take (i + 1)) = jn1 (jr (rs.take i)) rs[i] := by rw [List.take_add_one, List.getElem?_eq_getElem hi2]; exact jr_snoc _ _
    have ll : vs.length ≤ 2000 := by rw [hf3.len]; refine Nat.le_trans (jr_len _) ?_; rw [List.length_take]; omega
    obtain ⟨u, rfl, hu⟩ := hx
    refine ⟨u, _, rfl, hu, rfl, _, _, rfl, _, _, rfl, rfl, ?_⟩
    have fin : ∀ (H5 : Hp) (vs' : List V), Evl.Ex H H5 → H5 l = some (.lst vs') → F2 (RP K H5) vs' (jr (rs.take (i + 1))) → Evl.Ex H H5 ∧ ∃ (vs : List V) (y2 y3 : Option V), (([some (.ref t), some (.ref l), x2, x3] : L2.St).set 2 (some (.int rs[i].1))).set 3 (some (.int rs[i].2)) = [some (.ref t), some (.ref l), y2, y3] ∧ H5 l = some (.lst vs) ∧ F2 (RP K H5) vs (jr (rs.take (i + 1))) := fun H5 vs' a b c => ⟨a, vs', _, _, rfl, b, c⟩
    rcases nil_or_snoc (jr (rs.take i)) with en | ⟨as, z, en⟩
    · rw [en] at hf3
      obtain rfl : vs = [] := List.eq_nil_of_length_eq_zero hf3.len
      refine Evl.s_if (b := false) (Evl.et_is (Evl.et_and (a := false) (b := true) (Evl.et_is (Evl.et_test (ev_neD (K := K) (ed_runs (rs := []) (Evl.ev_var rfl) (Evl.sq_of hl3) .nil) (e := .list []) (ed_lst ed_nil) (shaped_runs _) (by decide +kernel))) (by rw [show PyData.eqv (.list (([] : List (Int × Int)).map prD)) (.list []) = true from eqv_runs [] []]; rfl)) (fun z => nomatch z)) rfl) (fun z => nomatch z) (fun _ H4 e4 => ?_)
      have hl4 := e4 _ _ hl3
      have E4 := e3.trans e4
      refine Evl.s_appU hl4 (Evl.ev_var rfl) (Evl.eu_tup (vs := [.int rs[i].1, .int rs[i].2]) (Evl.ea_cons (Evl.ev_var rfl) (Evl.ea_cons (Evl.ev_var rfl) Evl.ea_nil)) (show 2 ≤ 100000 by decide)) (by show 0 < _; omega) (fun p H5 np e5 hp => ?_)
      have hl5 := e5 _ _ hl4
      refine fin _ _ (Evl.Ex.mut (E4.trans e5) nl) upd_same ?_
      rw [tk, en]
      exact .cons (RP.upd hl5 ⟨p, rfl, SqT.of hp⟩) .nil
    · have jn : jn1 (jr (rs.take i)) rs[i] = if z.1 = rs[i].1 then as ++ [(rs[i].1, z.2 + rs[i].2)] else as ++ [z] ++ [rs[i]] := by
        rw [en]
        unfold jn1
        rw [List.getLast?_concat, List.dropLast_concat]
      rw [en] at hf3
      obtain ⟨ys, y, rfl, fy, ⟨v, rfl, hv⟩⟩ := f2_snoc hf3
      refine Evl.s_if (b := decide (z.1 = rs[i].1)) (Evl.et_is (Evl.et_and (a := true) (b := decide (z.1 = rs[i].1)) (Evl.et_is (Evl.et_test (ev_neD (K := K) (ed_runs (rs := as ++ [z]) (Evl.ev_var rfl) (Evl.sq_of hl3) hf3) (e := .list []) (ed_lst ed_nil) (shaped_runs _) (by decide +kernel))) (by rw [show PyData.eqv (.list ((as ++ [z]).map prD)) (.list []) = decide (as ++ [z] = []) from eqv_runs (as ++ [z]) []]; cases as <;> rfl))
        (fun _ => Evl.et_is (Evl.et_test (ev_eq (ev_ixT (ev_ixL (Evl.ev_var rfl) (ev_neg Evl.ev_c) (Evl.sq_of hl3) (atI_last _ _)) Evl.ev_c hv (atI_0 _ _)) (Evl.ev_var rfl) rfl)) (decide_eq_decide.mpr ⟨V.int.inj, congrArg V.int⟩))) (Bool.true_and _)) (fun hb H4 e4 => ?_) (fun hb H4 e4 => ?_)
      · have ez := of_decide_eq_true hb
        have hl4 := e4 _ _ hl3
        refine (Evl.eu_tup (vs := [.int rs[i].1, .int (z.2 + rs[i].2)]) (Evl.ea_cons (Evl.ev_var rfl) (Evl.ea_cons (ev_i0 (g := fun i j => V.int (i + j)) (ev_ixT (ev_ixL (Evl.ev_var rfl) (ev_neg Evl.ev_c) (Evl.sq_of hl4) (atI_last _ _)) Evl.ev_c (Evl.ex_t e4 hv) (atI_nat (j := 1) rfl)) (Evl.ev_var rfl)) Evl.ea_nil)) (show 2 ≤ 100000 by decide)) H4 (Evl.Ex.refl _) _ fun p H5 np e5 hp => ?_
        have hl5 := e5 _ _ hl4
        refine ⟨.ref l, rfl, 1, rfl, l, _, -1, ys.length, rfl, rfl, hl5, ?_, ?_⟩
        · rw [List.length_append]
          exact ixN_last ys.length
        · refine fin _ _ (Evl.Ex.mut (e3.trans (e4.trans e5)) nl) upd_same ?_
          rw [tk, jn, if_pos ez, List.set_append_right _ _ (Nat.le_refl _), Nat.sub_self]
          exact (F2.app (fy.imp fun x b r => RP.upd hl5 (r.ex (e4.trans e5))) (.cons (RP.upd hl5 ⟨p, rfl, SqT.of hp⟩) .nil))
      · refine Evl.s_appU (e4 _ _ hl3) (Evl.ev_var rfl) (Evl.eu_tup (vs := [.int rs[i].1, .int rs[i].2]) (Evl.ea_cons (Evl.ev_var rfl) (Evl.ea_cons (Evl.ev_var rfl) Evl.ea_nil)) (show 2 ≤ 100000 by decide)) (by omega) (fun p H5 np e5 hp => ?_)
        have hl5 := (e4.trans e5) _ _ hl3
        refine fin _ _ (Evl.Ex.mut (e3.trans (e4.trans e5)) nl) upd_same ?_
        rw [tk, jn, if_neg (of_decide_eq_false hb)]
        exact F2.app (F2.app (fy.imp fun x b r => RP.upd hl5 (r.ex (e4.trans e5))) (.cons (RP.upd hl5 ⟨v, rfl, Evl.ex_t (e4.trans e5) hv⟩) .nil)) (.cons (RP.upd hl5 ⟨p, rfl, SqT.of hp⟩) .nil)
theorem el_vals {te : TE} {σ : L2.St} {H : Hp} {g : Addr} {ps : List (Int × Int)} (h : Evl.Ev te σ H (.ref g)) (hg : H g = some (.dK (ps.map kc))) : Evl.EvL (tListVals te) σ H ((ps.map fun r => r.2).map V.int) := fun H1 e Q q => h H1 e _ fun H2 e2 => ⟨g, ps.map kc, rfl, (e.trans e2) _ _ hg, fun p hp => by
  refine q p _ (Evl.fresh_back e2 hp) (e2.trans (Evl.Ex.new hp)) ?_
  rw [upd_same, List.map_map, List.map_map]
  rfl⟩
def spNum2 : Sp := fun vs H Q _ => ∃ g ps, vs = [.ref g] ∧ H g = some (.dK (ps.map kc)) ∧ ps.length ≤ 12 ∧ ∀ H', Evl.Ex H H' → Q (.int (numR ps)) H'
theorem ok_num (B : Bl mg) (D : Df K mg "_law_number" s__law_number ["plain"]) : Cg P w K mg base CX0 1 "_law_number" spNum2 := by
  refine cg_of D sc__law_number (fun vs H Q E h => ?_) (fun f cdv A fr s H vs Q E hr hgd h => ?_)
  · obtain ⟨g, ps, rfl, _⟩ := h
    rfl
  · obtain ⟨g, ps, rfl, hg, hl, q⟩ := h
    refine ⟨_, (pss_one (ps_ret (pe_callB (cr_sum rfl) (by rfl) B.sum bt_sum (pa_cons (pe_listVals rfl (pv 0) (by rfl) B.list) pa_nil)))), ?_⟩
    exact Evl.s_ret (ev_sum (K := K) (el_vals (Evl.ev_var rfl) hg)) q
theorem num_v {H : Hp} {g : Addr} {ps : List (Int × Int)} (hg : H g = some (.dK (ps.map kc))) (hl : ps.length ≤ 12) : Evl.SpV spNum2 [.ref g] H (.int (numR ps)) := fun H1 e Q q E => ⟨g, ps, rfl, e _ _ hg, hl, q⟩
theorem tot_v {H : Hp} {g : Addr} {ps : List (Int × Int)} (hg : H g = some (.dK (ps.map kc))) (hc : Cts ps) : Evl.SpV spTot [.ref g] H (.int (tot ps)) := fun H1 e Q q E => ⟨g, ps, rfl, e _ _ hg, hc, q⟩
theorem sq_put {td tk tv : TE} {z : TS} {D : Ends} {σ : L2.St} {H : Hp} {m : Int} (hv : Evl.Ev tv σ H (.int m)) (k : ∀ H1, Evl.Ex H H1 → sDPut td tk (fun _ H Q => Q (.int m) H) { D with nx := z D } σ H1) : tSeq (sDPut td tk tv) z D σ H := hv H (Evl.Ex.refl H) _ fun H1 e1 => k H1 e1
def spSml : Sp := fun vs H Q _ => ∃ (g : Addr) (ps : List (Int × Int)) (n : Int), vs = [.ref g, .int n] ∧ H g = some (.dK (ps.map kc)) ∧ Cts ps ∧ 0 ≤ n ∧ ∀ q H', Evl.Ex H H' → H' q = some (.dK ((prt 0 0 n (srt ps)).map kc)) → Q (.ref q) H'
theorem ffw_cons (n : Int) (r : Int × Int) (t : List (Int × Int)) : ffw n (r :: t) = (if (if r.2 < n then r.2 else n) > 0 then [(r.1, if r.2 < n then r.2 else n)] else []) ++ ffw (n - (if r.2 < n then r.2 else n)) t := rfl
theorem ok_sml (B : Bl mg) (D : Df K mg "_law_smallest" s__law_smallest ["plain", "number"]) : Cg P w K mg base CX0 1 "_law_smallest" spSml := by
  refine cg_of D sc__law_smallest (fun vs H Q E h => ?_) (fun f cdv A fr s H vs Q E hr hgd h => ?_)
  · obtain ⟨g, ps, n, rfl, _⟩ := h
    rfl
  · obtain ⟨g, ps, n, rfl, hg, ct, n0, q⟩ := h
    refine ⟨_, (pss_cons (ps_par (i := 2) (j := 3) rfl sc__law_smallest.nd rfl rfl (by decide) rfl rfl (pa_cons pe_dnewK (pa_cons (pv 1) pa_nil)) (by rfl))
    (pss_cons (ps_for PassesOwn.never rfl (pi_list (pe_callB (call_sortedDI rfl) (by rfl) B.sorted bt_sorted (pa_cons (pv 0) pa_nil))) (pg_name (i := 4) sc__law_smallest.nd rfl (by first | exact Or.inl rfl | exact Or.inr rfl)) (pss_one (ps_if (pt_cmpR op_gt (pv 3) pe_int (nomark _)) (pss_cons (ps_dput (hu_of hr) (pv 2) (pv 4) (pe_callB (call_min2 rfl) (by rfl) B.min bt_min (pa_cons (pv 3) (pa_cons (pe_dget (hu_of hr) (pv 0) (pv 4) (fun _ _ => rfl)) pa_nil))) rfl)
    (pss_one (ps_set (i := 3) sc__law_smallest.nd rfl (by first | exact Or.inl rfl | exact Or.inr rfl) (pe_op op_sub (pv 3) (pe_dget (hu_of hr) (pv 2) (pv 4) (fun _ _ => rfl)))))) pss_nil)))
     (pss_one (ps_ret (pv 2))))), ?_⟩
    have nd := ct.nd
    have l12 := ct.ln
    refine fun u nu => ?_
    have ug : u ≠ g := fun e => by rw [e, hg] at nu; cases nu
    have e1 : Evl.Ex H (upd H u (.dK [])) := Evl.Ex.new nu
    have hu1 : upd H u (.dK []) u = some (.dK []) := upd_same
    generalize upd H u (.dK []) = H1 at e1 hu1 ⊢
    refine ⟨.int n, rfl, _, _, rfl, ?_⟩
    have rl : (srt ps).length = ps.length := (srt_perm ps).length_eq
    have rnd : ((srt ps).map Prod.fst).Nodup := (List.Perm.nodup_iff ((srt_perm ps).map Prod.fst)).mpr nd
    have fe : ffw n (srt ps) = prt 0 0 n (srt ps) := by
      have z := ffw_prt (l := n) (rs := srt ps) (s := 0) (fun r hr => (siz_int (ct.ok r ((srt_perm ps).mem_iff.mp hr)).2).1) (Int.le_refl 0)
      by_cases c : n > 0
      · rw [if_pos c, Int.sub_zero] at z
        exact z
      · rw [if_neg c] at z
        have : n = 0 := by omega
        rw [this] at z ⊢
        exact z
    rw [← fe] at q
    clear fe
    generalize hrs : srt ps = rs at rl rnd q
    have pm : rs.Perm ps := hrs ▸ srt_perm ps
    refine Ck.q_forL (K := K) (el_sortD (Evl.ev_var rfl) (.inl (e1 _ _ hg)) nd (by omega)) fun l H2 nl e2 hl => ?_
    rw [hrs] at hl
    have ul : u ≠ l := fun e => by rw [← e, hu1] at nl; cases nl
    refine ⟨l, rfl, ⟨_, SqL.of hl⟩, ?_⟩
    refine for_it walk_list (fun i σ H' => Evl.Ex H H' ∧ H' l = some (.lst ((rs.map Prod.fst).map V.int)) ∧ ∃ (acc : List (Int × Int)) (left : Int) (t4 : Option V), σ = [some (.ref g), some (.int n), some (.ref u), some (.int left), t4] ∧ H' u = some (.dK (acc.map kc)) ∧ 0 ≤ left ∧ acc ++ ffw left (rs.drop i) = ffw n rs ∧ (∀ x ∈ acc, x.1 ∈ (rs.map Prod.fst).take i) ∧ acc.length ≤ i) ⟨e1.trans e2, hl, [], n, none, rfl, e2 _ _ hu1, n0, rfl, fun x h => (nomatch h), Nat.le_refl _⟩ (fun i σ H' _ h => SqL.of h.2.1) ?_ ?_
    · rintro i x σ H3' H3 hi ⟨e3, hl3, acc, left, t4, rfl, hu3, le0, ha, hb, hln⟩ ⟨rfl, hxi⟩
      rw [List.length_map, List.length_map] at hi
      rw [List.getElem?_map, List.getElem?_map, List.getElem?_eq_getElem hi] at hxi
      obtain rfl := Option.some.inj hxi
      rw [List.drop_eq_getElem_cons hi] at ha
      have hm : rs[i] ∈ ps := pm.mem_iff.mp (List.getElem_mem hi)
      have st : (rs.map Prod.fst).take (i + 1) = (rs.map Prod.fst).take i ++ [rs[i].1] := by rw [List.take_add_one, List.getElem?_map, List.getElem?_eq_getElem hi]; rfl
      have nin : rs[i].1 ∉ (rs.map Prod.fst).take i := fun m => by
        have z := rnd
        rw [← List.take_append_drop (i + 1) (rs.map Prod.fst), st, List.nodup_append] at z
        exact (List.nodup_append.mp z.1).2.2 _ m _ (List.mem_singleton.mpr rfl) rfl
      generalize rs[i] = r at hm st nin ha
      have r0 : 0 < r.2 := (siz_int (ct.ok r hm).2).1
      rw [ffw_cons] at ha
      refine Evl.s_when (b := decide (left > 0)) (Evl.et_test (ev_i0 (g := fun i j => .bl (decide (i > j))) (Evl.ev_var rfl) Evl.ev_c)) (fun c H4 e4 => ?_) (fun c H4 e4 => ?_)
      · have c := of_decide_eq_true c
        have hmin := ev_min (a := left) (b := r.2) (σ := [some (.ref g), some (.int n), some (.ref u), some (.int left), some (.int r.1)]) (H := H4) (Evl.ev_var (i := 3) rfl) (ev_dget (Evl.ev_var (i := 0) rfl) (Evl.ev_var (i := 4) rfl) (fun H5 e5 => .inl ((e3.trans (e4.trans e5)) _ _ hg)) ((cnt_mem nd).mp hm))
        have mb : 0 < (if r.2 < left then r.2 else left) ∧ (if r.2 < left then r.2 else left) ≤ left := by split <;> omega
        generalize (if r.2 < left then r.2 else left) = m at hmin ha mb
        refine sq_put hmin fun H5 e5 => ?_
        have hu5 := (e4.trans e5) _ _ hu3
        rw [if_pos mb.1] at ha
        have znk : r.1 ∉ acc.map Prod.fst := fun h => by
          obtain ⟨x, hx, e⟩ := List.mem_map.mp h
          exact nin (e ▸ hb x hx)
        refine ⟨.ref u, rfl, .int r.1, rfl, u, _, rfl, DPut.k (k := Sum.inl r.1) hu5 (by rw [List.length_map, sizeLine_eq]; omega), ?_⟩
        rw [putK_new znk]
        have hu6 : upd H5 u (.dK ((acc ++ [(r.1, m)]).map kc)) u = some (.dK ((acc ++ [(r.1, m)]).map kc)) := upd_same
        have E6 : Evl.Ex H (upd H5 u (.dK ((acc ++ [(r.1, m)]).map kc))) := Evl.Ex.mut (e3.trans (e4.trans e5)) nu
        have hl6 : upd H5 u (.dK ((acc ++ [(r.1, m)]).map kc)) l = some (.lst ((rs.map Prod.fst).map V.int)) := by
          rw [upd_ne (Ne.symm ul)]
          exact (e4.trans e5) _ _ hl3
        generalize upd H5 u (.dK ((acc ++ [(r.1, m)]).map kc)) = H6 at hu6 E6 hl6 ⊢
        have cm : cnt (acc ++ [(r.1, m)]) r.1 = some m := by
          have nda : ((acc ++ [(r.1, m)]).map Prod.fst).Nodup → cnt (acc ++ [(r.1, m)]) r.1 = some m := fun h => (cnt_mem h).mp (List.mem_append_right _ (List.mem_singleton.mpr rfl))
          have key : ∀ a : List (Int × Int), r.1 ∉ a.map Prod.fst → cnt (a ++ [(r.1, m)]) r.1 = some m := by
            intro a
            induction a with
            | nil => intro _; show (if r.1 = r.1 then some m else none) = some m; rw [if_pos rfl]
            | cons y a ih =>
              intro h
              show (if y.1 = r.1 then some y.2 else cnt (a ++ [(r.1, m)]) r.1) = some m
              rw [if_neg fun e => h (by rw [List.map_cons, ← e]; exact List.mem_cons_self)]
              exact ih fun z => h (List.mem_cons_of_mem _ z)
          exact key acc znk
        refine Evl.s_asg (v := .int (left - m)) (ev_i0 (g := fun i j => V.int (i - j)) (Evl.ev_var rfl) (ev_dget (Evl.ev_var rfl) (Evl.ev_var rfl) (fun H7 e7 => .inl (e7 _ _ hu6)) cm)) (fun H7 e7 => ?_)
        refine ⟨E6.trans e7, e7 _ _ hl6, acc ++ [(r.1, m)], left - m, _, rfl, e7 _ _ hu6, by omega, by rw [← ha, List.append_assoc], fun x hx => ?_, by rw [List.length_append]; exact Nat.succ_le_succ hln⟩
        rw [st]
        rcases List.mem_append.mp hx with h | h
        · exact List.mem_append_left _ (hb x h)
        · rw [List.mem_singleton.mp h]
          exact List.mem_append_right _ (List.mem_singleton.mpr rfl)
      · have c := of_decide_eq_false c
        have l0 : left = 0 := by omega
        have m0 : (if r.2 < left then r.2 else left) = 0 := by rw [l0]; exact if_neg (by omega)
        rw [m0, if_neg (by decide), Int.sub_zero] at ha
        refine ⟨e3.trans e4, e4 _ _ hl3, acc, left, _, rfl, e4 _ _ hu3, le0, ha, fun x hx => ?_, Nat.le_succ_of_le hln⟩
        rw [st]
        exact List.mem_append_left _ (hb x hx)
    · rintro _ H3 ⟨e3, hl3, acc, left, t4, rfl, hu3, le0, ha, hb, hln⟩
      rw [List.length_map, List.length_map, List.drop_length] at ha
      have ha : acc ++ [] = ffw n rs := ha
      rw [List.append_nil] at ha
      exact ⟨.ref u, rfl, q u H3 e3 (ha ▸ hu3)⟩
def spSmt : Sp := fun vs H Q _ => ∃ (g : Addr) (ps : List (Int × Int)) (i : Int), vs = [.ref g, .int i] ∧ H g = some (.dK (ps.map kc)) ∧ Cts ps ∧ ∀ H', Evl.Ex H H' → Q (.int (smt ps i)) H'
theorem ok_smt (B : Bl mg) (D : Df K mg "_law_smaller_total" s__law_smaller_total ["plain", "size"]) : Cg P w K mg base CX0 1 "_law_smaller_total" spSmt := by
  refine cg_of D sc__law_smaller_total (fun vs H Q E h => ?_) (fun f cdv A fr s H vs Q E hr hgd h => ?_)
  · obtain ⟨g, ps, i, rfl, _⟩ := h
    rfl
  · obtain ⟨g, ps, i, rfl, hg, ct, q⟩ := h
    refine ⟨_, (pss_one (ps_ret (pe_callB (cr_sum rfl) (by rfl) B.sum bt_sum (pa_cons (pe_lock (pe_lc (own := [("other", 2)]) (g := (gName 2)) rfl sc__law_smaller_total.nd (pi_keys (pv 0)) (blkOk_by (own := [("other", 2)]) (N := n__law_smaller_total) (sc := defScope s__law_smaller_total) (by decide +kernel)) (fun _ _ _ _ _ => (pg_name (i := 2) sc__law_smaller_total.nd rfl (by first | exact Or.inl rfl | exact Or.inr rfl))) (fun _ _ _ _ _ => (pts_one (pt_cmpR op_lt (pv 2) (pv 1) (nomark _)))) (fun _ _ _ _ _ => (pe_op op_mulW (pv 2) (pe_dget (hu_of hr) (pv 0) (pv 2) (fun _ _ => rfl)))))) pa_nil)))), ?_⟩
    have ln := ct.ln
    refine Evl.s_ret (Evl.ev_is (ev_sum (K := K) (ns := (ps.filter fun p => decide (p.1 < i)).map fun p => p.1 * p.2) (Ck.el_is (el_lcK (fun j => decide ((ps.getD j (0, 0)).1 < i)) (fun j => .int ((ps.getD j (0, 0)).1 * (ps.getD j (0, 0)).2)) (fun _ => Evl.ev_var rfl) hg (by rw [List.length_map]; omega) (fun _ => rfl) (fun j k x H1 hk _ => ?_) (fun j k x H1 hk hf _ => ?_)) ?_)) ?_) q
    · obtain ⟨p, hp, e, rfl, rfl⟩ := kc_at hk
      rw [e]
      exact Evl.et_test (ev_i0 (Evl.ev_var rfl) (Evl.ev_var rfl))
    · obtain ⟨p, hp, e, rfl, rfl⟩ := kc_at hk
      rw [e]
      obtain ⟨s1, s2⟩ := ct.ok p hp
      exact ev_i (g := fun i j => .int (i * j)) (Evl.ev_var rfl) (ev_dget (Evl.ev_var rfl) (Evl.ev_var rfl) (fun H2 e2 => (hf.to e2).dk) ((cnt_mem ct.nd).mp hp)) (mul200 (siz_nat s1) (siz_nat s2))
    · rw [List.length_map]
      exact given_if ps (fun p => decide (p.1 < i)) fun p => p.1 * p.2
    · rw [smt_ps ct.nd]
def RnL (K : PySem.W.Frag) (H : Hp) (l : Addr) (rs : List (Int × Int)) : Prop := ∃ vs, SqL K H l vs ∧ F2 (RP K H) vs rs
theorem RnL.up {H H' : Hp} {l : Addr} {rs : List (Int × Int)} (h : RnL K H l rs) (e : Evl.Ex H H') : RnL K H' l rs := by
  obtain ⟨vs, h1, h2⟩ := h
  exact ⟨vs, Evl.ex_l e h1, h2.imp fun x b r => r.ex e⟩
def EvLI (te : TE) (σ : L2.St) (H : Hp) (ns : List Int) : Prop := ∀ H1, Evl.Ex H H1 → ∀ Q : VK, (∀ t H2, Evl.Ex H1 H2 → H2 t = some (.lst (ns.map V.int)) → Q (.ref t) H2) → te σ H1 Q
theorem ed_li {te : TE} {σ : L2.St} {H : Hp} {ns : List Int} (h : EvLI te σ H ns) : Ed K te σ H (.list (ns.map PyData.int)) := fun H1 e Q q => h H1 e Q fun t H2 e2 ht => q _ H2 e2 (.lst (SqL.of ht) (dpa_ints ns))
theorem ne_li {te : TE} {σ : L2.St} {H : Hp} {ns : List Int} (h : EvLI te σ H ns) : Evl.Ev (tOp (rNeD K) te (tLst tNil)) σ H (.bl (!decide (ns = []))) := by
  refine Evl.ev_is (ev_neD (ed_li (K := K) h) (ed_lst (K := K) ed_nil) (shaped_flat fun d hd => ?_) (by decide)) ?_
  · obtain ⟨n, _, rfl⟩ := List.mem_map.mp hd
    exact ⟨rfl, rfl⟩
  · cases ns <;> rfl
theorem bars_e {tg tl : TE} {σ : L2.St} {H : Hp} {l : Addr} {X rs : List (Int × Int)} (hg : EvR RD tg σ H X) (hl : Evl.Ev tl σ H (.ref l)) (cx : Cts X) (lc : LotC (srt X)) (r : RnL K H l rs) (so : StoOk rs) : EvLI (tCall (spBars K) [] E0 (tCons tg (tCons tl tNil))) σ H (brs (srt X) rs) := fun H1 e Q q => hg H1 e _ fun v H2 e2 ⟨g, hv, hgg⟩ => hl H2 (e.trans e2) _ fun H3 e3 => by
  obtain ⟨vs, h1, h2⟩ := r.up (e.trans (e2.trans e3))
  have ln := so.ln
  exact ⟨g, l, X, srt X, rs, vs, by rw [hv]; rfl, e3 _ _ hgg, cx, srt_perm X, lc, h1, h2, by omega, fun r hr => by
    obtain ⟨x, y, z⟩ := so.ok r hr
    have := siz_int x
    exact ⟨by omega, this.2, z⟩, fun t H4 e4 ht => q t H4 (e2.trans (e3.trans e4)) ht⟩
theorem sml_e {tg ti : TE} {σ : L2.St} {H : Hp} {ps : List (Int × Int)} {n : Int} (hg : EvR RD tg σ H ps) (hi : Evl.Ev ti σ H (.int n)) (ct : Cts ps) (n0 : 0 ≤ n) : EvR RD (tCall spSml [] E0 (tCons tg (tCons ti tNil))) σ H (prt 0 0 n (srt ps)) := fun H1 e Q q => hg H1 e _ fun v H2 e2 ⟨g, hv, h⟩ => hi H2 (e.trans e2) _ fun H3 e3 => ⟨g, ps, n, by rw [hv]; rfl, e3 _ _ h, ct, n0, fun p H4 e4 hp => q _ H4 (e2.trans (e3.trans e4)) ⟨p, rfl, hp⟩⟩
theorem eqD_e {ta tb : TE} {σ : L2.St} {H : Hp} {X ps : List (Int × Int)} (ha : EvR RD ta σ H X) (hb : EvR RD tb σ H ps) : Evl.Ev (tOp (fun x y H Q => ∃ a b as bs, x = V.ref a ∧ y = .ref b ∧ Dk H a as ∧ Dk H b bs ∧ Q (.bl (eqP as bs)) H) ta tb) σ H (.bl (eqP X ps)) := fun H1 e Q q => ha H1 e _ fun v H2 e2 ⟨a, hv, h1⟩ => hb H2 (e.trans e2) _ fun u H3 e3 ⟨b, hu, h2⟩ => ⟨a, b, X, ps, hv, hu, .inl (e3 _ _ h1), .inl h2, q H3 (e2.trans e3)⟩
theorem eqP_srt {X ps : List (Int × Int)} (a : Cts X) (b : Cts ps) : eqP X ps = decide (srt X = srt ps) := by
  refine bool_iff ?_
  rw [decide_eq_true_eq, eqP_iff a.nd b.nd]
  exact ⟨fun h => asc_unique (srt_asc a.nd) (srt_asc b.nd) ((srt_perm X).trans (h.trans (srt_perm ps).symm)), fun h => (srt_perm X).symm.trans (h ▸ srt_perm ps)⟩
def yV : Option Int → V
  | none => .non
  | some i => .int i
theorem topT {qs ss fs : List (Int × Int)} (lc : LotC qs) (so : StoOk ss) (hf : LotC fs) (hk : ∀ p ∈ fs, p.1 ∈ qs.map Prod.fst) (ff : fitB fs ss = true) (f : Fil (qs.map Prod.fst) (cf qs) (unt ss) (fun _ => 0) (qs.map Prod.fst) (cf fs)) : fs ∈ partsOf qs ∧ TopN ((Fit qs ss).map numR) (numR fs) := by
  obtain ⟨b1, b2⟩ := best_things lc so hf hk f
  refine ⟨b1, List.mem_map_of_mem (fit_mem.mpr ⟨b1, ff⟩), fun y hy => ?_⟩
  obtain ⟨X, hX, rfl⟩ := List.mem_map.mp hy
  exact b2 X (fit_mem.mp hX).1 (fit_mem.mp hX).2
theorem topW {qs ss fs : List (Int × Int)} (lc : LotC qs) (so : StoOk ss) (hf : LotC fs) (hk : ∀ p ∈ fs, p.1 ∈ qs.map Prod.fst) (ff : fitB fs ss = true) (f : Fil (qs.map Prod.fst) (cf qs) (unt ss) (fun _ => 0) (qs.map Prod.fst).reverse (cf fs)) : fs ∈ partsOf qs ∧ TopN ((Fit qs ss).map tot) (tot fs) := by
  obtain ⟨b1, b2⟩ := best_total lc so hf hk f
  refine ⟨b1, List.mem_map_of_mem (fit_mem.mpr ⟨b1, ff⟩), fun y hy => ?_⟩
  obtain ⟨X, hX, rfl⟩ := List.mem_map.mp hy
  exact b2 X (fit_mem.mp hX).1 (fit_mem.mp hX).2
theorem brs_jr (ps rs : List (Int × Int)) : brs ps (jr rs) = brs ps rs := by
  unfold brs
  refine congrArg (List.filter · _) (funext fun s => ?_)
  rw [unt_jr]

theorem cf_out {N : List Int} {X : List (Int × Int)} (hk : ∀ p ∈ X, p.1 ∈ N) {t : Int} (ht : t ∉ N) : cf X t = 0 := by
  unfold cf
  cases e : cnt X t with
  | none => rfl
  | some v =>
    have m := cnt_key.mpr (show (cnt X t).isSome = true by rw [e]; rfl)
    obtain ⟨p, hp, e2⟩ := List.mem_map.mp m
    exact absurd (e2 ▸ hk p hp) ht
def GoodT (qs ss fs : List (Int × Int)) (yo : Option Int) : Prop := fs ∈ partsOf qs ∧ fitB fs ss = true ∧ (yo = none ↔ fs = qs) ∧ (∀ i, yo = some i → i ∈ brs (prt 0 0 (numR fs + 1) qs) ss) ∧ TopN ((Fit qs ss).map numR) (numR fs)
def GoodW (qs ss fs : List (Int × Int)) (yo : Option Int) : Prop := fs ∈ partsOf qs ∧ fitB fs ss = true ∧ (yo = none ↔ fs = qs) ∧ (∀ i, yo = some i → i ∈ qs.map Prod.fst ∧ tot fs = i * unt ss i + smt qs i) ∧ TopN ((Fit qs ss).map tot) (tot fs)
def spPaper (K : PySem.W.Frag) (CL CS : Addr) (G : List (Int × Int) → List (Int × Int) → List (Int × Int) → Option Int → Prop) : Sp := fun vs H Q _ => ∃ a b qs ss, vs = [.ref a, .ref b] ∧ LotAt K CL H a qs ∧ LotC qs ∧ StoAt K CS H b ss ∧ StoOk ss ∧
  ∀ t c fs yo H', Evl.Ex H H' → SqT K H' t [.ref c, yV yo] → LotAt K CL H' c fs → LotC fs → G qs ss fs yo → Q (.ref t) H'
theorem ok_tpS {CL CS : Addr} (B : Bl mg) (D : Df K mg "things_paper" s_things_paper ["lot", "store"]) (C_keep_things : Cg P w K mg base CX0 10 "keep_things" (spKeep K CL CS false)) (O_Lot_eq : Og P w K mg base 1 CL "__eq__" ["self", "other"] (spLotEq K CL)) (C_barring_sizes : Cg P w K mg base CX0 6 "barring_sizes" (spBrs K CL CS)) (C__one_more : Cg P w K mg base CX0 6 "_one_more" (spOne K CL)) : Cg P w K mg base CX0 11 "things_paper" (spPaper K CL CS GoodT) := by
  refine cg_of D sc_things_paper (fun vs H Q E h => ?_) (fun f cdv A fr s H vs Q E hr hgd h => ?_)
  · obtain ⟨a, b, qs, ss, rfl, _⟩ := h
    rfl
  · obtain ⟨a, b, qs, ss, rfl, hl, hc, hs, ho, q⟩ := h
    refine ⟨_, (pss_cons (ps_set (i := 2) sc_things_paper.nd rfl (by first | exact Or.inl rfl | exact Or.inr rfl) (pcg C_keep_things hr hgd (pa_cons (pv 0) (pa_cons (pv 1) pa_nil))))
    (pss_cons (ps_if (pt_cmpR (oeqO O_Lot_eq hr) (pv 2) (pv 0) (nomark _)) (pss_one (ps_ret (pe_tup (pa_cons (pv 2) (pa_cons pe_non pa_nil))))) pss_nil)
     (pss_one (ps_ret (pe_tup (pa_cons (pv 2) (pa_cons (pe_ix ix_tup (pcg C_barring_sizes hr hgd (pa_cons (pcg C__one_more hr hgd (pa_cons (pv 0) (pa_cons (pv 2) pa_nil))) (pa_cons (pv 1) pa_nil))) (pe_un un_neg pe_int) (fun _ _ => rfl)) pa_nil))))))), ?_⟩
    refine q_asgP (P := fun v H' => ∃ c fs, v = .ref c ∧ Evl.Ex H H' ∧ LotAt K CL H' c fs ∧ LotC fs ∧ fitB fs ss = true ∧ fs ∈ partsOf qs ∧ TopN ((Fit qs ss).map numR) (numR fs)) (fun Q2 q2 => ⟨.ref a, rfl, .ref b, rfl, a, b, qs, ss, rfl, hl, hc, hs, ho, fun c fs H1 e1 h1 h2 h3 h4 h5 => q2 _ _ ⟨c, fs, rfl, e1, h1, h2, h4, (topT hc ho h2 h3 h4 h5).1, (topT hc ho h2 h3 h4 h5).2⟩⟩) ?_
    rintro _ H1 ⟨c, fs, rfl, e1, h1, h2, h3, h4, h5⟩
    have hl1 := hl.up e1
    have n0 : 0 ≤ numR fs := (part_num hc h4).1
    have bst : ∀ X ∈ partsOf qs, fitB X ss = true → numR X ≤ numR fs := fun X hX hf => h5.2 _ (List.mem_map_of_mem (fit_mem.mpr ⟨hX, hf⟩))
    refine Evl.q_when (Evl.et_is (Evl.et_test (ev_lotEq (Evl.ev_var rfl) (Evl.ev_var rfl) h1 hl1)) (eqP_lot h2 hc)) (fun z H2 e2 => ?_) (fun z H2 e2 => ?_)
    · have e := of_decide_eq_true z
      exact ret_two (K := K) (Evl.ev_var rfl) Evl.ev_c (fun t H3 e3 ht => q t c fs none H3 (e1.trans (e2.trans e3)) ht (h1.up (e2.trans e3)) h2 ⟨h4, h3, ⟨fun _ => e, fun _ => rfl⟩, fun i z => (nomatch z), h5⟩)
    · have ne := of_decide_eq_false z
      have ct := prt_cts (f := 0) (l := numR fs + 1) 0 hc.ct (by omega)
      have bn := bars_some hc ct h4 ne bst
      exact ret_two (K := K) (Evl.ev_var rfl) (ev_ixTu (etu_brs (elot_one (Evl.ev_var rfl) (hl1.up e2) hc (elot_v (Evl.ev_var rfl) (h1.up e2)) h2.ct) (esto_v (Evl.ev_var rfl) (hs.up (e1.trans e2))) (prt_lot hc (by omega) ct) ho) (ev_neg Evl.ev_c) (at_last bn)) (fun t H3 e3 ht => q t c fs (some _) H3 (e1.trans (e2.trans e3)) ht (h1.up (e2.trans e3)) h2 ⟨h4, h3, ⟨fun z => (nomatch z), fun z => (ne z).elim⟩, fun i z => by cases z; exact List.getLast_mem bn, h5⟩)
theorem ok_wpS {CL CS : Addr} (B : Bl mg) (D : Df K mg "total_paper" s_total_paper ["lot", "store"]) (C_keep_total : Cg P w K mg base CX0 10 "keep_total" (spKeep K CL CS true)) (P_sizes : Pg P w K mg base 1 CL "sizes" (spSizes K CL)) (O_Lot_getitem : Og P w K mg base 4 CL "__getitem__" ["self", "at"] (spItem K CL)) : Cg P w K mg base CX0 11 "total_paper" (spPaper K CL CS GoodW) := by
  refine cg_of D sc_total_paper (fun vs H Q E h => ?_) (fun f cdv A fr s H vs Q E hr hgd h => ?_)
  · obtain ⟨a, b, qs, ss, rfl, _⟩ := h
    rfl
  · obtain ⟨a, b, qs, ss, rfl, hl, hc, hs, ho, q⟩ := h
    refine ⟨_, (pss_cons (ps_set (i := 2) sc_total_paper.nd rfl (by first | exact Or.inl rfl | exact Or.inr rfl) (pcg C_keep_total hr hgd (pa_cons (pv 0) (pa_cons (pv 1) pa_nil))))
    (pss_cons (ps_setLc (i := 3) (own := [("size", 4)]) (g := (gName 4)) rfl sc_total_paper.nd rfl rfl (sw_true rfl rfl rfl (by decide +kernel)) (pi_tup (pprop P_sizes hr (pv 0))) (blkOk_by (own := [("size", 4)]) (N := n_total_paper) (sc := defScope s_total_paper) (by decide +kernel)) (fun _ _ _ _ _ => (pg_name (i := 4) sc_total_paper.nd rfl (by first | exact Or.inl rfl | exact Or.inr rfl))) (fun _ _ _ _ _ => (pts_one (pt_cmpR op_lt (pgetO O_Lot_getitem hr (pv 2) (pv 4)) (pgetO O_Lot_getitem hr (pv 0) (pv 4)) (nomark _)))) (fun _ _ _ _ _ => (pv 4)))
     (pss_one (ps_ret (pe_tup (pa_cons (pv 2) (pa_cons (pe_callBK (cr_minD rfl) (by rfl) B.min bt_min (pa_cons (pv 3) pa_nil) (pk_cons pe_non pk_nil)) pa_nil))))))), ?_⟩
    refine q_asgP (P := fun v H' => ∃ c fs, v = .ref c ∧ Evl.Ex H H' ∧ LotAt K CL H' c fs ∧ LotC fs ∧ (∀ p ∈ fs, p.1 ∈ qs.map Prod.fst) ∧ fitB fs ss = true ∧ Fil (qs.map Prod.fst) (cf qs) (unt ss) (fun _ => 0) (qs.map Prod.fst).reverse (cf fs)) (fun Q2 q2 => ⟨.ref a, rfl, .ref b, rfl, a, b, qs, ss, rfl, hl, hc, hs, ho, fun c fs H1 e1 h1 h2 h3 h4 h5 => q2 _ _ ⟨c, fs, rfl, e1, h1, h2, h3, h4, h5⟩⟩) ?_
    rintro _ H1 ⟨c, fs, rfl, e1, h1, h2, h3, h4, h5⟩
    obtain ⟨pf, tW⟩ := topW hc ho h2 h3 h4 h5
    have hl1 := hl.up e1
    have ln := hc.ct.ln
    refine Evl.q_asgL (xs := ((qs.map Prod.fst).filter fun s => decide (cf fs s < cf qs s)).map V.int) (Ck.el_is (el_lcN (K := K) (fun s => decide (cf fs s < cf qs s)) (fun s => .int s) (etu_sizes (Evl.ev_var rfl) hl1) (by rw [List.length_map]; omega) (fun _ => rfl) (fun s hs H2 e2 => ?_) (fun s hs _ H2 e2 => Evl.ev_var rfl)) rfl) (fun l H2 nl e2 hl2 => ?_)
    · have sz := (cts_pos hc.ct s hs).2.2
      exact Evl.et_test (ev_i0 (g := fun i j => .bl (decide (i < j))) (ev_item (K := K) (Evl.ev_var rfl) (Evl.ev_var rfl) (h1.up e2) sz) (ev_item (K := K) (Evl.ev_var rfl) (Evl.ev_var rfl) (hl1.up e2) sz))
    have E2 := e1.trans e2
    have le := (part_of hc pf).2.2
    have key : ∀ s ∈ qs.map Prod.fst, s ∉ ((qs.map Prod.fst).filter fun s => decide (cf fs s < cf qs s)) → cf fs s = cf qs s := fun s hs hn => by
      have b := (le s).2
      have nb : ¬ cf fs s < cf qs s := fun z => hn (List.mem_filter.mpr ⟨hs, decide_eq_true z⟩)
      omega
    have same : ((qs.map Prod.fst).filter fun s => decide (cf fs s < cf qs s)) = [] → fs = qs := fun e => by
      have key2 : ∀ s ∈ qs.map Prod.fst, cf fs s = cf qs s := fun s hs => key s hs (by rw [e]; exact List.not_mem_nil)
      refine asc_unique h2.asc hc.asc ((List.perm_ext_iff_of_nodup (nodup_of_map h2.ct.nd) (nodup_of_map hc.ct.nd)).mpr fun p => ⟨fun hp => ?_, fun hp => ?_⟩)
      · obtain ⟨y, hy, ey⟩ := List.mem_map.mp (h3 p hp)
        have k := key2 p.1 (h3 p hp)
        rw [cf_mem h2.ct.nd hp, ← ey, cf_mem hc.ct.nd hy] at k
        rw [show p = y from Prod.ext ey.symm k]
        exact hy
      · have k := key2 p.1 (List.mem_map_of_mem hp)
        rw [cf_mem hc.ct.nd hp] at k
        have pos := (siz_int (hc.ct.ok p hp).2).1
        by_cases hm : p.1 ∈ fs.map Prod.fst
        · obtain ⟨y, hy, ey⟩ := List.mem_map.mp hm
          rw [← ey, cf_mem h2.ct.nd hy] at k
          rw [show p = y from Prod.ext ey.symm k.symm]
          exact hy
        · have z := cf_out (X := fs) (fun p hp => List.mem_map_of_mem hp) hm
          omega
    have go : ∀ (y : Option Int), GoodW qs ss fs y → ∀ p, H2 p = none → ∀ H3, Evl.Ex H2 H3 → SqT K H3 p [.ref c, yV y] → Q (.ref p) H3 := fun y g p np H3 e3 ht => q p c fs y H3 (E2.trans e3) ht (h1.up (e2.trans e3)) h2 g
    refine ⟨.ref c, rfl, .ref l, rfl, l, _, .non, rfl, rfl, SqL.of hl2, fun e => ?_, fun m hm least => ?_⟩
    · exact ⟨(show 2 ≤ sizeLine by decide), fun p np => go none ⟨pf, h4, ⟨fun _ => same e, fun _ => rfl⟩, fun i z => (nomatch z), tW⟩ p np _ (Evl.Ex.new np) (SqT.of upd_same)⟩
    · obtain ⟨mN, lt⟩ := List.mem_filter.mp hm
      have lt := of_decide_eq_true lt
      refine ⟨(show 2 ≤ sizeLine by decide), fun p np => go (some m) ⟨pf, h4, ⟨fun z => (nomatch z), fun z => ?_⟩, fun i z => ?_, tW⟩ p np _ (Evl.Ex.new np) (SqT.of upd_same)⟩
      · rw [z] at lt
        omega
      · cases z
        refine ⟨mN, left_out hc ho h2 h3 h5 mN lt fun t ht l => key t ht fun hf => ?_⟩
        have := least t hf
        omega
theorem part_b {ps X : List (Int × Int)} (nd : (ps.map Prod.fst).Nodup) (lc : LotC (srt ps)) (hX : X ∈ partsOf (srt ps)) (lX : LotC X) : partB X ps = true := by
  unfold partB
  refine List.all_eq_true.mpr fun x hx => decide_eq_true ?_
  have b := ((part_of lc hX).2.2 x.1).2
  rw [cf_mem lX.ct.nd hx, cf_perm nd (srt_perm ps)] at b
  exact b
theorem fit_brs {X rs : List (Int × Int)} (h : fitB X rs = true) : brs X rs = [] := by
  unfold fitB at h
  exact brs_nil.mpr fun s hs => of_decide_eq_true (List.all_eq_true.mp h s hs)
theorem srt_lot {X : List (Int × Int)} (h : LotC X) : srt X = X := asc_unique (srt_asc h.ct.nd) h.asc (srt_perm _)
theorem lip_v {H : Hp} {o g : Addr} {X ps : List (Int × Int)} (ho : H o = some (.dK (X.map kc))) (hg : H g = some (.dK (ps.map kc))) (ct : Cts X) : Evl.SpV spLip [.ref o, .ref g] H (.bl (partB X ps)) := fun H1 e Q q E => ⟨o, g, X, ps, rfl, e _ _ ho, e _ _ hg, ct, q⟩
theorem notin_li {ta te : TE} {σ : L2.St} {H : Hp} {i : Int} {ns : List Int} (ha : Evl.Ev ta σ H (.int i)) (h : EvLI te σ H ns) : Evl.Ev (tOp (rIn K true) ta te) σ H (.bl (!decide (i ∈ ns))) := fun H1 e Q q => ha H1 e _ fun H2 e2 => h H2 (e.trans e2) _ fun t H3 e3 ht => ⟨t, ns.map V.int, rfl, .inl (SqL.of ht), rfl, by
  rw [List.all_map]
  exact List.all_eq_true.mpr fun _ _ => rfl, by
  have z := q H3 (e2.trans e3)
  have e : inV (.int i) (ns.map V.int) = decide (i ∈ ns) := by
    unfold inV
    rw [List.any_map]
    refine bool_iff ?_
    rw [List.any_eq_true, decide_eq_true_eq]
    exact ⟨fun ⟨x, hx, e⟩ => by rw [← beq_iff_eq.mp (show (x == i) = true from e)]; exact hx, fun h => ⟨i, h, show (i == i) = true from beq_self_eq_true i⟩⟩
  show Q (.bl (if true = true then !inV (.int i) (ns.map V.int) else _)) H3
  rw [if_pos rfl, e]
  exact z⟩
theorem first_e {σ : L2.St} {H : Hp} {o g l : Addr} {X ps rs : List (Int × Int)} {y : Option Int} (h6 : σ[6]? = some (some (.ref o))) (h0 : σ[0]? = some (some (.ref g))) (h1 : σ[1]? = some (some (.ref l))) (h5 : σ[5]? = some (some (yV y)))
    (ho : H o = some (.dK (X.map kc))) (hg : H g = some (.dK (ps.map kc))) (hl : RnL K H l rs) (so : StoOk rs) (ct : Cts ps) (lc : LotC (srt ps)) (lX : LotC X) (pX : X ∈ partsOf (srt ps)) (fX : fitB X rs = true) (yn : y = none ↔ X = srt ps) :
    Evl.EvT (tOr (tNot (tB (tCall spLip [] E0 (tCons (tVar 6) (tCons (tVar 0) tNil))))) (tOr (tTest (tOp (rNeD K) (tCall (spBars K) [] E0 (tCons (tVar 6) (tCons (tVar 1) tNil))) (tLst tNil))) (tTest (tOp rNe (tOp (fun x y H Q => y = .non ∧ Q (.bl (decide (x = .non))) H) (tVar 5) (tC .non)) (tOp (fun x y H Q => ∃ a b as bs, x = V.ref a ∧ y = .ref b ∧ Dk H a as ∧ Dk H b bs ∧ Q (.bl (eqP as bs)) H) (tVar 6) (tVar 0)))))) σ H false := by
  have en : Evl.Ev (tOp (fun x y H Q => y = .non ∧ Q (.bl (decide (x = .non))) H) (tVar 5) (tC .non)) σ H (.bl (decide (y = none))) := Evl.ev_is (ev_isN (Evl.ev_var h5)) (by cases y <;> rfl)
  have sX := srt_lot lX
  refine Evl.et_is (Evl.et_or (a := false) (b := false) (Evl.et_is (Evl.et_not (Evl.et_B (Evl.ev_call (vs := [.ref o, .ref g]) (Evl.ea_cons (Evl.ev_var h6) (Evl.ea_cons (Evl.ev_var h0) Evl.ea_nil)) (lip_v ho hg lX.ct)))) (by rw [part_b ct.nd lc pX lX]; rfl)) (fun _ => Evl.et_is (Evl.et_or (a := false) (b := false) (Evl.et_is (Evl.et_test (ne_li (bars_e (evr_rd (Evl.ev_var h6) ho) (Evl.ev_var h1) lX.ct (by rw [sX]; exact lX) hl so))) (by rw [sX, fit_brs fX]; rfl)) (fun _ => Evl.et_is (Evl.et_test (ev_ne en (eqD_e (evr_rd (Evl.ev_var h6) ho) (evr_rd (Evl.ev_var h0) hg)) rfl)) ?_)) rfl)) rfl
  rw [eqP_srt lX.ct ct, sX]
  by_cases e : X = srt ps
  · rw [yn.mpr e, decide_eq_true e]
    rfl
  · have ne : y ≠ none := fun z => e (yn.mp z)
    rw [decide_eq_false ne, decide_eq_false e]
    rfl
def spShown (K : PySem.W.Frag) (CL : Addr) : Sp := fun vs H Q _ => ∃ (g l t1 t2 c1 c2 : Addr) (ps rs X1 X2 : List (Int × Int)) (y1 y2 : Option Int), vs = [.ref g, .ref l, .ref t1, .ref t2] ∧ H g = some (.dK (ps.map kc)) ∧ Cts ps ∧ LotC (srt ps) ∧ RnL K H l rs ∧ StoOk rs ∧ SqT K H t1 [.ref c1, yV y1] ∧ LotAt K CL H c1 X1 ∧ LotC X1 ∧ GoodT (srt ps) rs X1 y1 ∧ SqT K H t2 [.ref c2, yV y2] ∧ LotAt K CL H c2 X2 ∧ LotC X2 ∧ GoodW (srt ps) rs X2 y2 ∧ ∀ H', Evl.Ex H H' → Q (.bl true) H'
theorem cnts_q {CL : Addr} {te : TE} {σ : L2.St} {H : Hp} {c : Addr} {X : List (Int × Int)} (h : Evl.Ev te σ H (.ref c)) (hl : LotAt K CL H c X) : ∀ Q : VK, (∀ o H', Evl.Ex H H' → H' o = some (.dK (X.map kc)) → Q (.ref o) H') → tProp CL (spCounts K CL) [] E0 te σ H Q := fun Q q => h H (Evl.Ex.refl H) _ fun H1 e1 => by
  obtain ⟨dx, t1, t2, d, ts, x1, _⟩ := (hl.up e1).ex
  exact ⟨c, dx, _, rfl, x1, c, X, rfl, hl.up e1, fun p H5 e5 np hp => q p H5 (e1.trans e5) hp⟩
theorem ok_shown {CL : Addr} (B : Bl mg) (D : Df K mg "_law_is_shown" s__law_is_shown ["plain", "runs", "one", "other"]) (C__law_is_part : Cg P w K mg base CX0 1 "_law_is_part" spLip) (C__law_bars : Cg P w K mg base CX0 2 "_law_bars" (spBars K)) (C__law_smallest : Cg P w K mg base CX0 1 "_law_smallest" spSml) (C__law_number : Cg P w K mg base CX0 1 "_law_number" spNum2) (C__law_total : Cg P w K mg base CX0 1 "_law_total" spTot) (C__law_space : Cg P w K mg base CX0 1 "_law_space" (spSpace K)) (C__law_smaller_total : Cg P w K mg base CX0 1 "_law_smaller_total" spSmt) (P_counts : Pg P w K mg base 1 CL "counts" (spCounts K CL)) : Cg P w K mg base CX0 3 "_law_is_shown" (spShown K CL) := by
  refine cg_of D sc__law_is_shown (fun vs H Q E h => ?_) (fun f cdv A fr s H vs Q E hr hgd h => ?_)
  · obtain ⟨g, l, t1, t2, c1, c2, ps, rs, X1, X2, y1, y2, rfl, _⟩ := h
    rfl
  · obtain ⟨g, l, t1, t2, c1, c2, ps, rs, X1, X2, y1, y2, rfl, hg, ct, lc, hl, so, h1, l1, lX1, ⟨p1, f1, n1, b1, _⟩, h2, l2, lX2, ⟨p2, f2, n2, b2, _⟩, q⟩ := h
    refine ⟨_, (pss_cons (ps_asg (pv 2) (pg_tup (n := 2) rfl (pgs_cons (pg_name (i := 4) sc__law_is_shown.nd rfl (by first | exact Or.inl rfl | exact Or.inr rfl)) (pgs_cons (pg_name (i := 5) sc__law_is_shown.nd rfl (by first | exact Or.inl rfl | exact Or.inr rfl)) pgs_nil))))
    (pss_cons (ps_set (i := 6) sc__law_is_shown.nd rfl (by first | exact Or.inl rfl | exact Or.inr rfl) (pprop P_counts hr (pv 4)))
     (pss_cons (ps_if (pw_or (pt_not (pt_val (pcg C__law_is_part hr hgd (pa_cons (pv 6) (pa_cons (pv 0) pa_nil))))) (pw_or (pt_cmpR (op_neD hr.units) (pcg C__law_bars hr hgd (pa_cons (pv 6) (pa_cons (pv 1) pa_nil))) (pe_lst pa_nil) (nomark _)) (pw_or1 (pt_cmpR op_ne (pe_cmpR op_isN (pv 5) pe_non (nomark _)) (pe_cmpR (op_eqDk hr.units0) (pv 6) (pv 0) (nomark _)) (nomark _))))).pt (pss_one (ps_ret pe_bl)) pss_nil)
      (pss_cons (ps_if (pw_and (pt_cmpR op_notN (pv 5) pe_non (nomark _)) (pw_and1 (pt_cmpR op_notIn_seq (pv 5) (pcg C__law_bars hr hgd (pa_cons (pcg C__law_smallest hr hgd (pa_cons (pv 0) (pa_cons (pe_op op_add (pcg C__law_number hr hgd (pa_cons (pv 6) pa_nil)) pe_int) pa_nil))) (pa_cons (pv 1) pa_nil))) (by with_unfolding_all rfl)))).pt (pss_one (ps_ret pe_bl)) pss_nil)
       (pss_cons (ps_asg (pv 3) (pg_tup (n := 2) rfl (pgs_cons (pg_name (i := 4) sc__law_is_shown.nd rfl (by first | exact Or.inl rfl | exact Or.inr rfl)) (pgs_cons (pg_name (i := 5) sc__law_is_shown.nd rfl (by first | exact Or.inl rfl | exact Or.inr rfl)) pgs_nil))))
        (pss_cons (ps_set (i := 6) sc__law_is_shown.nd rfl (by first | exact Or.inl rfl | exact Or.inr rfl) (pprop P_counts hr (pv 4)))
         (pss_cons (ps_if (pw_or (pt_not (pt_val (pcg C__law_is_part hr hgd (pa_cons (pv 6) (pa_cons (pv 0) pa_nil))))) (pw_or (pt_cmpR (op_neD hr.units) (pcg C__law_bars hr hgd (pa_cons (pv 6) (pa_cons (pv 1) pa_nil))) (pe_lst pa_nil) (nomark _)) (pw_or1 (pt_cmpR op_ne (pe_cmpR op_isN (pv 5) pe_non (nomark _)) (pe_cmpR (op_eqDk hr.units0) (pv 6) (pv 0) (nomark _)) (nomark _))))).pt (pss_one (ps_ret pe_bl)) pss_nil)
          (pss_cons (ps_if (pt_cmpR op_isN (pv 5) pe_non (nomark _)) (pss_one (ps_ret pe_bl)) pss_nil)
           (pss_cons (ps_set (i := 7) sc__law_is_shown.nd rfl (by first | exact Or.inl rfl | exact Or.inr rfl) (pe_op op_add (pe_op op_mulW (pv 5) (pcg C__law_space hr hgd (pa_cons (pv 1) (pa_cons (pv 5) pa_nil)))) (pcg C__law_smaller_total hr hgd (pa_cons (pv 0) (pa_cons (pv 5) pa_nil)))))
            (pss_one (ps_ret (pe_and (pe_cmp (pc_din (hu_of hr) (pv 5) (pv 0))) (pe_one (pe_cmpR op_eq (pcg C__law_total hr hgd (pa_cons (pv 6) pa_nil)) (pv 7) (nomark _))))))))))))))), ?_⟩
    refine ⟨.ref t1, rfl, _, _, rfl, h1, rfl, _, _, rfl, _, _, rfl, rfl, ?_⟩
    refine q_asgP (P := fun v H' => ∃ o, v = .ref o ∧ Evl.Ex H H' ∧ H' o = some (.dK (X1.map kc))) (fun Q2 q2 => cnts_q (Evl.ev_var rfl) l1 _ fun o H1 e1 ho => q2 _ _ ⟨o, rfl, e1, ho⟩) ?_
    rintro _ H1 ⟨o, rfl, e1, ho⟩
    have hg1 := e1 _ _ hg
    refine Evl.q_when (b := false) (first_e rfl rfl rfl rfl ho hg1 (hl.up e1) so ct lc lX1 p1 f1 n1) (fun z => nomatch z) (fun _ H2 e2 => ?_)
    have E2 := e1.trans e2
    have hg2 := E2 _ _ hg
    refine Evl.q_when (b := false) ?_ (fun z => nomatch z) (fun _ H3 e3 => ?_)
    · cases y1 with
      | none => exact Evl.et_is (Evl.et_and (a := false) (b := false) (Evl.et_is (Evl.et_test (ev_notN (Evl.ev_var rfl))) rfl) (fun z => nomatch z)) rfl
      | some i =>
        have n0 : 0 ≤ numR X1 := (part_num lc p1).1
        have ctp : Cts (prt 0 0 (numR X1 + 1) (srt ps)) := prt_cts 0 lc.ct (by omega)
        have lp : LotC (prt 0 0 (numR X1 + 1) (srt ps)) := prt_lot lc (by omega) ctp
        refine Evl.et_is (Evl.et_and (a := true) (b := false) (Evl.et_is (Evl.et_test (ev_notN (Evl.ev_var rfl))) rfl) (fun _ => Evl.et_is (Evl.et_test (notin_li (Evl.ev_var rfl) (bars_e (sml_e (evr_rd (Evl.ev_var rfl) hg2) (ev_i0 (g := fun i j => .int (i + j)) (ev_call1 (Evl.ev_var rfl) (num_v (e2 _ _ ho) lX1.ct.ln)) Evl.ev_c) ct (by omega)) (Evl.ev_var rfl) ctp (by rw [srt_lot lp]; exact lp) (hl.up E2) so))) ?_)) rfl
        rw [srt_lot lp, decide_eq_true (b1 i rfl)]
        rfl
    have E3 := E2.trans e3
    refine ⟨.ref t2, rfl, _, _, rfl, Evl.ex_t E3 h2, rfl, _, _, rfl, _, _, rfl, rfl, ?_⟩
    refine q_asgP (P := fun v H' => ∃ o, v = .ref o ∧ Evl.Ex H3 H' ∧ H' o = some (.dK (X2.map kc))) (fun Q2 q2 => cnts_q (Evl.ev_var rfl) (l2.up E3) _ fun o H1 e1 ho => q2 _ _ ⟨o, rfl, e1, ho⟩) ?_
    rintro _ H4 ⟨o2, rfl, e4, ho2⟩
    have E4 := E3.trans e4
    have hg4 := E4 _ _ hg
    refine Evl.q_when (b := false) (first_e rfl rfl rfl rfl ho2 hg4 (hl.up E4) so ct lc lX2 p2 f2 n2) (fun z => nomatch z) (fun _ H5 e5 => ?_)
    have E5 := E4.trans e5
    cases y2 with
    | none => exact Evl.q_when (b := true) (Evl.et_is (Evl.et_test (ev_isN (Evl.ev_var rfl))) (decide_eq_true rfl)) (fun _ H6 e6 => q H6 (E5.trans e6)) (fun z => nomatch z)
    | some i =>
      obtain ⟨iN, it⟩ := b2 i rfl
      obtain ⟨i0, i1, iz⟩ := cts_pos lc.ct i iN
      refine Evl.q_when (b := false) (Evl.et_is (Evl.et_test (ev_isN (Evl.ev_var rfl))) (decide_eq_false (fun z => nomatch z))) (fun z => nomatch z) (fun _ H6 e6 => ?_)
      have E6 := E5.trans e6
      obtain ⟨vs, r1, r2⟩ := hl.up E6
      have ln := so.ln
      obtain ⟨u0, u1⟩ := unt_sto (s := i) so i0
      refine q_asgP (P := fun v H' => v = .int (i * unt rs i + smt ps i) ∧ Evl.Ex H6 H') (fun Q2 q2 => ev_i0 (g := fun i j => .int (i + j)) (ev_i (g := fun i j => .int (i * j)) (Evl.ev_var rfl) (Evl.ev_call (vs := [.ref l, .int i]) (z := .int (unt rs i)) (Evl.ea_cons (Evl.ev_var rfl) (Evl.ea_cons (Evl.ev_var rfl) Evl.ea_nil)) (fun H4 e4 Q q E => ⟨l, i, vs, rs, rfl, Evl.ex_l e4 r1, r2.imp fun x b r => r.ex e4, by omega, fun r hr => by
          obtain ⟨x, y, z⟩ := so.ok r hr
          have := siz_int x
          exact ⟨by omega, this.2, z⟩, i0, i1, q⟩)) (wide_mul (a := 800) (b := 1900) (Nat.lt_trans i1 (by decide +kernel)) (Nat.lt_trans u1 (by decide +kernel)) (by decide) (by decide) (by decide))) (Evl.ev_call (vs := [.ref g, .int i]) (z := .int (smt ps i)) (Evl.ea_cons (Evl.ev_var rfl) (Evl.ea_cons (Evl.ev_var rfl) Evl.ea_nil)) (fun H4 e4 Q q E => ⟨g, ps, i, rfl, (E6.trans e4) _ _ hg, ct, q⟩)) H6 (Evl.Ex.refl H6) _ fun H7 e7 => q2 _ _ ⟨rfl, e7⟩) ?_
      rintro _ H7 ⟨rfl, e7⟩
      have E7 := E6.trans e7
      refine Evl.s_ret (Evl.ev_is (Evl.ev_andV (a := true) (b := true) (Evl.ev_is (ev_din (Evl.ev_var rfl) (Evl.ev_var rfl) (.inl (E7 _ _ hg))) ?_) (fun _ => Evl.ev_is (ev_eq (ev_call1 (Evl.ev_var rfl) (tot_v ((e5.trans (e6.trans e7)) _ _ ho2) lX2.ct)) (Evl.ev_var rfl) rfl) ?_)) rfl) (fun H8 e8 => q H8 (E7.trans e8))
      · obtain ⟨y, hy, e⟩ := List.mem_map.mp iN
        have m := (cnt_mem ct.nd).mp ((srt_perm ps).mem_iff.mp hy)
        rw [← e, m]
        rfl
      · rw [it, ← smt_srt ct.nd]
        exact congrArg V.bl (decide_eq_true rfl)

theorem fits_jr {qs rs : List (Int × Int)} : Fit qs (jr rs) = Fit qs rs := by
  have e : (fun X => fitB X (jr rs)) = fun X => fitB X rs := funext fun X => fit_jr X rs
  show (partsOf qs).filter (fun X => fitB X (jr rs)) = (partsOf qs).filter fun X => fitB X rs
  rw [e]
theorem goodT_jr {qs rs X : List (Int × Int)} {y : Option Int} (h : GoodT qs (jr rs) X y) : GoodT qs rs X y := by
  obtain ⟨a, b, c, d, e⟩ := h
  exact ⟨a, by rw [← fit_jr]; exact b, c, fun i z => by rw [← brs_jr]; exact d i z, by rw [← fits_jr]; exact e⟩
theorem goodW_jr {qs rs X : List (Int × Int)} {y : Option Int} (h : GoodW qs (jr rs) X y) : GoodW qs rs X y := by
  obtain ⟨a, b, c, d, e⟩ := h
  exact ⟨a, by rw [← fit_jr]; exact b, c, fun i z => by rw [← unt_jr]; exact d i z, by rw [← fits_jr]; exact e⟩
theorem part_b2 {qs X : List (Int × Int)} (lc : LotC qs) (hX : X ∈ partsOf qs) (lX : LotC X) : partB X qs = true := by
  unfold partB
  refine List.all_eq_true.mpr fun x hx => decide_eq_true ?_
  have b := ((part_of lc hX).2.2 x.1).2
  rw [cf_mem lX.ct.nd hx] at b
  exact b
theorem mostT_e {CL CS a b : Addr} {ta tb : TE} {σ : L2.St} {H : Hp} {qs ss : List (Int × Int)} {n : Int} (ha : Evl.Ev ta σ H (.ref a)) (hb : Evl.Ev tb σ H (.ref b)) (la : LotAt K CL H a qs) (lc : LotC qs) (lb : StoAt K CS H b ss) (so : StoOk ss) (hn : TopN ((Fit qs ss).map numR) n) : Evl.Ev (tCall (spMostT K CL CS) [] E0 (tCons ta (tCons tb tNil))) σ H (.int n) := fun H1 e Q q => ha H1 e _ fun H2 e2 => hb H2 (e.trans e2) _ fun H3 e3 =>
  ⟨a, b, qs, ss, rfl, la.up (e.trans (e2.trans e3)), lc, lb.up (e.trans (e2.trans e3)), so, fun fs H4 e4 h1 h2 h3 h4 => by
    obtain ⟨b1, b2⟩ := best_things lc so h1 h2 h4
    have z : (fs.map fun (r : Int × Int) => r.2).sum = n := top_eq numR hn (fit_mem.mpr ⟨b1, h3⟩) b2
    rw [z]
    exact q H4 (e2.trans (e3.trans e4))⟩
theorem mostW_e {CL CS a b : Addr} {ta tb : TE} {σ : L2.St} {H : Hp} {qs ss : List (Int × Int)} {n : Int} (ha : Evl.Ev ta σ H (.ref a)) (hb : Evl.Ev tb σ H (.ref b)) (la : LotAt K CL H a qs) (lc : LotC qs) (lb : StoAt K CS H b ss) (so : StoOk ss) (hn : TopN ((Fit qs ss).map tot) n) : Evl.Ev (tCall (spMostW K CL CS) [] E0 (tCons ta (tCons tb tNil))) σ H (.int n) := fun H1 e Q q => ha H1 e _ fun H2 e2 => hb H2 (e.trans e2) _ fun H3 e3 =>
  ⟨a, b, qs, ss, rfl, la.up (e.trans (e2.trans e3)), lc, lb.up (e.trans (e2.trans e3)), so, fun fs H4 e4 h1 h2 h3 h4 => by
    obtain ⟨b1, b2⟩ := best_total lc so h1 h2 h4
    have z : tot fs = n := top_eq tot hn (fit_mem.mpr ⟨b1, h3⟩) b2
    rw [z]
    exact q H4 (e2.trans (e3.trans e4))⟩
def spRgt (K : PySem.W.Frag) : Sp := fun vs H Q _ => ∃ (g l : Addr) (ps rs : List (Int × Int)), vs = [.ref g, .ref l] ∧ H g = some (.dK (ps.map kc)) ∧ Cts ps ∧ LotC (srt ps) ∧ RnL K H l rs ∧ StoOk rs ∧ StoOk (jr rs) ∧ (jr rs).length ≤ 8 ∧ ∀ H', Evl.Ex H H' → Q (.bl true) H'
def EsP (K : PySem.W.Frag) (CL : Addr) (qs ss : List (Int × Int)) (r : Option (List (Int × Int) × Option Int)) (te : TE) (σ : L2.St) (H : Hp) : Prop := Es (fun v H => PapV K CL H qs ss v r) te σ H
theorem isT_e {CL CS a b : Addr} {ta tb tv : TE} {σ : L2.St} {H : Hp} {qs ss : List (Int × Int)} {r : Option (List (Int × Int) × Option Int)} {f : List (Int × Int) → List (Int × Int) → Option (List (Int × Int) × Option Int) → Bool} (ha : Evl.Ev ta σ H (.ref a)) (hb : Evl.Ev tb σ H (.ref b)) (la : LotAt K CL H a qs) (lc : LotC qs) (lb : StoAt K CS H b ss) (so : StoOk ss) (hv : EsP K CL qs ss r tv σ H) : Evl.Ev (tCall (spIsT K CL CS f) [] E0 (tCons ta (tCons tb (tCons tv tNil)))) σ H (.bl (f qs ss r)) := fun H1 e Q q => ha H1 e _ fun H2 e2 => hb H2 (e.trans e2) _ fun H3 e3 => hv H3 (e.trans (e2.trans e3)) _ fun v H4 e4 pv => by
  have E4 := e.trans (e2.trans (e3.trans e4))
  exact ⟨a, b, v, qs, ss, r, rfl, la.up E4, lc, lb.up E4, so, pv, fun H5 e5 => q H5 (e2.trans (e3.trans (e4.trans e5)))⟩
theorem goodT_pap {CL : Addr} {H : Hp} {t c : Addr} {qs ss X : List (Int × Int)} {yo : Option Int} (hq : LotC qs) (ht : SqT K H t [.ref c, yV yo]) (l : LotAt K CL H c X) (lX : LotC X) (p : X ∈ partsOf qs) (f : fitB X ss = true) (n : yo = none ↔ X = qs) (m : ∀ i, yo = some i → i ∈ qs.map Prod.fst) : PapV K CL H qs ss (.ref t) (some (X, yo)) := by
  cases yo with
  | none =>
    have e := n.mp rfl
    rw [e] at l f ⊢
    exact .all ht l f
  | some i =>
    refine .one ht l lX (part_b2 hq p lX) f (fun e => nomatch n.mpr e) ?_
    · obtain ⟨y, hy, e⟩ := List.mem_map.mp (m i rfl)
      rw [← e, (cnt_mem hq.ct.nd).mp hy]
      rfl
theorem ok_right {CL CS : Addr} (B : Bl mg) (LT_Lot : LotT K mg CL) (D : Df K mg "_law_right" s__law_right ["plain", "runs"]) (C__law_merged : Cg P w K mg base CX0 1 "_law_merged" (spMrg K)) (C__law_made_lot : Cg P w K mg base CX0 6 "_law_made_lot" (spMade K CL)) (C__law_made_store : Cg P w K mg base CX0 6 "_law_made_store" (spMadeG K CS)) (C__law_is_shown : Cg P w K mg base CX0 3 "_law_is_shown" (spShown K CL)) (C_things_paper : Cg P w K mg base CX0 11 "things_paper" (spPaper K CL CS GoodT)) (C_total_paper : Cg P w K mg base CX0 11 "total_paper" (spPaper K CL CS GoodW)) (C_most_things : Cg P w K mg base CX0 11 "most_things" (spMostT K CL CS)) (C_most_total : Cg P w K mg base CX0 11 "most_total" (spMostW K CL CS)) (C_is_things_paper : Cg P w K mg base CX0 10 "is_things_paper" (spIsT K CL CS isT)) (C_is_total_paper : Cg P w K mg base CX0 10 "is_total_paper" (spIsT K CL CS isW)) (P_number : Pg P w K mg base 2 CL "number" (spLNum K CL)) (P_total : Pg P w K mg base 1 CL "total" (spTotal K CL)) : Cg P w K mg base CX0 12 "_law_right" (spRgt K) := by
  refine cg_of D sc__law_right (fun vs H Q E h => ?_) (fun f cdv A fr s H vs Q E hr hgd h => ?_)
  · obtain ⟨g, l, ps, rs, rfl, _⟩ := h
    rfl
  · obtain ⟨g, l, ps, rs, rfl, hg, ct, lc, hl, sor, so, l8, q⟩ := h
    have rn : Rns (jr rs) := ⟨fun r hr => by
      obtain ⟨x, y, z⟩ := so.ok r hr
      exact ⟨x, siz_of y (by have e : (10 : Nat) ^ 200 = ((10 : Int) ^ 200).toNat := by decide +kernel
                             have e2 : (0 : Int) ≤ 10 ^ 200 := by decide +kernel
                             omega)⟩, by omega, by rw [jr_jr]; omega⟩
    refine ⟨_, (pss_cons (ps_par (i := 2) (j := 3) rfl sc__law_right.nd rfl rfl (by decide) rfl rfl (pa_cons (pcg C__law_made_lot hr hgd (pa_cons (pv 0) pa_nil)) (pa_cons (pcg C__law_made_store hr hgd (pa_cons (pcg C__law_merged hr hgd (pa_cons (pv 1) pa_nil)) pa_nil)) pa_nil)) (by rfl))
    (pss_cons (ps_par (i := 4) (j := 5) rfl sc__law_right.nd rfl rfl (by decide) rfl rfl (pa_cons (pcg C_things_paper hr hgd (pa_cons (pv 2) (pa_cons (pv 3) pa_nil))) (pa_cons (pcg C_total_paper hr hgd (pa_cons (pv 2) (pa_cons (pv 3) pa_nil))) pa_nil)) (by rfl))
     (pss_cons (ps_if (pw_or (pt_not (pt_val (pe_callB call_isi (by rfl) B.isinstance bt_isinstance (pa_cons (pv 4) (pa_cons (pe_bltn (v := V.ty "tuple") (by rfl) B.tuple bt_tuple rfl) pa_nil))))) (pw_or (pt_not (pt_val (pe_callB call_isi (by rfl) B.isinstance bt_isinstance (pa_cons (pv 5) (pa_cons (pe_bltn (v := V.ty "tuple") (by rfl) B.tuple bt_tuple rfl) pa_nil))))) (pw_or (pt_cmpR op_ne (pe_callB call_len_seq (by rfl) B.len bt_len (pa_cons (pv 4) pa_nil)) pe_int (nomark _)) (pw_or1 (pt_cmpR op_ne (pe_callB call_len_seq (by rfl) B.len bt_len (pa_cons (pv 5) pa_nil)) pe_int (nomark _)))))).pt (pss_one (ps_ret pe_bl)) pss_nil)
      (pss_cons (ps_if (pt_not (pt_val (pcg C__law_is_shown hr hgd (pa_cons (pv 0) (pa_cons (pv 1) (pa_cons (pv 4) (pa_cons (pv 5) pa_nil))))))) (pss_one (ps_ret pe_bl)) pss_nil)
       (pss_cons (ps_if (pt_cmpR (op_neD hr.units) (pe_lst (pa_cons (pprop P_number hr (pe_ix ix_tup (pv 4) pe_int (fun _ _ => rfl))) (pa_cons (pprop P_total hr (pe_ix ix_tup (pv 5) pe_int (fun _ _ => rfl))) pa_nil))) (pe_lst (pa_cons (pcg C_most_things hr hgd (pa_cons (pv 2) (pa_cons (pv 3) pa_nil))) (pa_cons (pcg C_most_total hr hgd (pa_cons (pv 2) (pa_cons (pv 3) pa_nil))) pa_nil))) (nomark _)) (pss_one (ps_ret pe_bl)) pss_nil)
        (pss_one (ps_ret (pe_and (pe_cmpR op_is_bl (pcg C_is_things_paper hr hgd (pa_cons (pv 2) (pa_cons (pv 3) (pa_cons (pv 4) pa_nil)))) pe_bl (nomark _)) (pe_one (pe_cmpR op_is_bl (pcg C_is_total_paper hr hgd (pa_cons (pv 2) (pa_cons (pv 3) (pa_cons (pv 5) pa_nil)))) pe_bl (nomark _))))))))))), ?_⟩
    obtain ⟨vs0, r1, r2⟩ := hl
    have ln := sor.ln
    refine q_parP (P := fun x y H' => ∃ a b, x = .ref a ∧ y = .ref b ∧ Evl.Ex H H' ∧ LotAt K CL H' a (srt ps) ∧ StoAt K CS H' b (jr rs)) (fun Q2 q2 => elot_madeR (K := K) (evr_rd (Evl.ev_var rfl) hg) ct H (Evl.Ex.refl H) _ fun a H1 e1 hl1 => ⟨.ref l, rfl, l, vs0, rs, rfl, Evl.ex_l e1 r1, r2.imp fun x b r => r.ex e1, by omega, fun u ys H2 nu e2 hu hf => ?_⟩) ?_
    · exact esto_made (K := K) (σ := L2.start n__law_right [V.ref g, V.ref l]) (te := tC (.ref u)) Evl.ev_c (SqL.of hu) hf l8 rn H2 (Evl.Ex.refl H2) _ fun b H3 e3 hs3 => q2 _ _ _ ⟨a, b, rfl, rfl, e1.trans (e2.trans e3), hl1.up (e2.trans e3), by rw [jr_jr] at hs3; exact hs3⟩
    rintro _ _ H1 ⟨a, b, rfl, rfl, e1, lot1, sto1⟩
    refine q_parP (P := fun x y H' => ∃ (t1 t2 c1 c2 : Addr) (X1 X2 : List (Int × Int)) (y1 y2 : Option Int), x = .ref t1 ∧ y = .ref t2 ∧ Evl.Ex H1 H' ∧ SqT K H' t1 [.ref c1, yV y1] ∧ LotAt K CL H' c1 X1 ∧ LotC X1 ∧ GoodT (srt ps) (jr rs) X1 y1 ∧ SqT K H' t2 [.ref c2, yV y2] ∧ LotAt K CL H' c2 X2 ∧ LotC X2 ∧ GoodW (srt ps) (jr rs) X2 y2)
      (fun Q2 q2 => ⟨.ref a, rfl, .ref b, rfl, a, b, srt ps, jr rs, rfl, lot1, lc, sto1, so, fun t1 c1 X1 y1 H2 e2 h1 h2 h3 h4 => ⟨.ref a, rfl, .ref b, rfl, a, b, srt ps, jr rs, rfl, lot1.up e2, lc, sto1.up e2, so, fun t2 c2 X2 y2 H3 e3 g1 g2 g3 g4 => q2 _ _ _ ⟨t1, t2, c1, c2, X1, X2, y1, y2, rfl, rfl, e2.trans e3, Evl.ex_t e3 h1, h2.up e3, h3, h4, g1, g2, g3, g4⟩⟩⟩) ?_
    rintro _ _ H2 ⟨t1, t2, c1, c2, X1, X2, y1, y2, rfl, rfl, e2, h1, h2, h3, h4, g1, g2, g3, g4⟩
    have E2 := e1.trans e2
    have lot2 := lot1.up e2
    have sto2 := sto1.up e2
    have ty : ∀ {t : Addr} {xs : List V}, SqT K H2 t xs → ∀ H1, Evl.Ex H2 H1 → TyX K H1 (.ref t) (.type "tuple") := fun h H1 e => ty_tup (Evl.ex_t e h)
    refine Evl.q_when (b := false) (Evl.et_is (Evl.et_or (a := false) (b := false) (Evl.et_is (Evl.et_not (Evl.et_B (ev_isi (Evl.ev_var rfl) Evl.ev_c (.ty _) (ty h1) (kit_ty (r := true) (by decide +kernel))))) rfl) (fun _ => Evl.et_is (Evl.et_or (a := false) (b := false) (Evl.et_is (Evl.et_not (Evl.et_B (ev_isi (Evl.ev_var rfl) Evl.ev_c (.ty _) (ty g1) (kit_ty (r := true) (by decide +kernel))))) rfl) (fun _ => Evl.et_is (Evl.et_or (a := false) (b := false) (Evl.et_is (Evl.et_test (ev_ne (ev_lenT (Evl.ev_var rfl) h1) Evl.ev_c rfl)) rfl) (fun _ => Evl.et_is (Evl.et_test (ev_ne (ev_lenT (Evl.ev_var rfl) g1) Evl.ev_c rfl)) rfl)) rfl)) rfl)) rfl) (fun z => nomatch z) (fun _ H3 e3 => ?_)
    have E3 := E2.trans e3
    refine Evl.q_when (b := false) (Evl.et_is (Evl.et_not (Evl.et_B (Evl.ev_call (vs := [.ref g, .ref l, .ref t1, .ref t2]) (z := .bl true) (Evl.ea_cons (Evl.ev_var rfl) (Evl.ea_cons (Evl.ev_var rfl) (Evl.ea_cons (Evl.ev_var rfl) (Evl.ea_cons (Evl.ev_var rfl) Evl.ea_nil)))) (fun H4 e4 Q q E => ⟨g, l, t1, t2, c1, c2, ps, rs, X1, X2, y1, y2, rfl, (E3.trans e4) _ _ hg, ct, lc, ⟨vs0, Evl.ex_l (E3.trans e4) r1, r2.imp fun x b r => r.ex (E3.trans e4)⟩, sor, Evl.ex_t (e3.trans e4) h1, h2.up (e3.trans e4), h3, goodT_jr h4, Evl.ex_t (e3.trans e4) g1, g2.up (e3.trans e4), g3, goodW_jr g4, q⟩)))) rfl) (fun z => nomatch z) (fun _ H4 e4 => ?_)
    have e34 := e3.trans e4
    have E4 := E3.trans e4
    have lot4 := lot2.up e34
    have sto4 := sto2.up e34
    obtain ⟨p1, f1, n1, b1, top1⟩ := h4
    obtain ⟨p2, f2, n2, b2, top2⟩ := g4
    refine Evl.q_when (b := false) (Evl.et_is (Evl.et_test (ev_neD (K := K) (ed_lst (ed_cons (ed_int (ev_lnum (K := K) (ev_ixT (Evl.ev_var rfl) Evl.ev_c (Evl.ex_t e34 h1) (atI_0 _ _)) (h2.up e34) (by have := h3.ct.ln; omega))) (ed_cons (ed_int (ev_total (K := K) (ev_ixT (Evl.ev_var rfl) Evl.ev_c (Evl.ex_t e34 g1) (atI_0 _ _)) (g2.up e34) g3.ct)) ed_nil)) (show 2 ≤ 100000 by decide)) (ed_lst (ed_cons (ed_int (mostT_e (K := K) (Evl.ev_var rfl) (Evl.ev_var rfl) lot4 lc sto4 so top1)) (ed_cons (ed_int (mostW_e (K := K) (Evl.ev_var rfl) (Evl.ev_var rfl) lot4 lc sto4 so top2)) ed_nil)) (show 2 ≤ 100000 by decide)) (shaped_lints [_, _]) (shaped_lints [_, _]))) (by rw [show PyData.eqv (.list [PyData.int (X1.map fun r => r.2).sum, PyData.int (tot X2)]) (.list [PyData.int (numR X1), PyData.int (tot X2)]) = decide ([(X1.map fun r => r.2).sum, tot X2] = [numR X1, tot X2]) from eqv_lints [_, _] [_, _]]; rw [show decide ([(X1.map fun r => r.2).sum, tot X2] = [numR X1, tot X2]) = true from decide_eq_true rfl]; rfl)) (fun z => nomatch z) (fun _ H5 e5 => ?_)
    have e35 := e34.trans e5
    have m2 : ∀ i, y2 = some i → i ∈ (srt ps).map Prod.fst := fun i z => (b2 i z).1
    have m1 : ∀ i, y1 = some i → i ∈ (srt ps).map Prod.fst := fun i z => by
      have k := b1 i z
      unfold brs at k
      exact (prt_sub 0 _ _ 0).subset (List.mem_filter.mp k).1
    have q1 : isT (srt ps) (jr rs) (some (X1, y1)) = true := by
      cases y1 with
      | none => rfl
      | some i => exact decide_eq_true (b1 i rfl)
    have q2 : isW (srt ps) (jr rs) (some (X2, y2)) = true := by
      cases y2 with
      | none => rfl
      | some i => exact decide_eq_true (b2 i rfl).2
    refine Evl.s_ret (Evl.ev_is (Evl.ev_andV (a := true) (b := true) (Evl.ev_is (ev_isB (isT_e (K := K) (f := isT) (Evl.ev_var rfl) (Evl.ev_var rfl) (lot4.up e5) lc (sto4.up e5) so (es_ev (Evl.ev_var rfl) fun H6 e6 => goodT_pap lc (Evl.ex_t (e35.trans e6) h1) (h2.up (e35.trans e6)) h3 p1 f1 n1 m1)) Evl.ev_c) (by rw [q1]; rfl)) (fun _ => Evl.ev_is (ev_isB (isT_e (K := K) (f := isW) (Evl.ev_var rfl) (Evl.ev_var rfl) (lot4.up e5) lc (sto4.up e5) so (es_ev (Evl.ev_var rfl) fun H6 e6 => goodT_pap lc (Evl.ex_t (e35.trans e6) g1) (g2.up (e35.trans e6)) g3 p2 f2 n2 m2)) Evl.ev_c) (by rw [q2]; rfl))) rfl) (fun H6 e6 => q H6 (E4.trans (e5.trans e6)))
theorem sto_pos {rs : List (Int × Int)} (h : ∀ r ∈ rs, (0 < r.1 ∧ r.1 < 10 ^ 28) ∧ 0 < r.2 ∧ r.2 < 10 ^ 32) (ln : rs.length ≤ 40) : StoOk rs := ⟨fun r hr => by
  obtain ⟨x, y, z⟩ := h r hr
  have e0 : (10 : Int) ^ 28 = 10000000000000000000000000000 := by decide +kernel
  have e1 : (10 : Int) ^ 32 = 100000000000000000000000000000000 := by decide +kernel
  have e2 : (100000000000000000000000000000000 : Nat) < 10 ^ 200 := by decide +kernel
  exact ⟨siz_of x.1 (by omega), y, by omega⟩, ln⟩
theorem rgt_lit {td tl : TE} {σ : L2.St} {H : Hp} {ps rs : List (Int × Int)} (hd : ∀ H1 (Q : VK), (∀ p H2, Evl.Ex H1 H2 → H2 p = some (.dK (ps.map kc)) → Q (.ref p) H2) → td σ H1 Q) (hl : ∀ H1 (Q : VK), (∀ l vs H2, Evl.Ex H1 H2 → H2 l = some (.lst vs) → F2 (RP K H2) vs rs → Q (.ref l) H2) → tl σ H1 Q)
    (ct : Cts ps) (lc : LotC (srt ps)) (sor : StoOk rs) (so : StoOk (jr rs)) (l8 : (jr rs).length ≤ 8) : Evl.Ev (tCall (spRgt K) [] E0 (tCons td (tCons tl tNil))) σ H (.bl true) := fun H1 e Q q =>
  hd H1 _ fun p H2 e2 hp => hl H2 _ fun l vs H3 e3 h1 h2 => ⟨p, l, ps, rs, rfl, e3 _ _ hp, ct, lc, ⟨vs, SqL.of h1, h2⟩, sor, so, l8, fun H4 e4 => q H4 (e2.trans (e3.trans e4))⟩
theorem pr_two {σ : L2.St} {a b c d : Int} (H1 : Hp) (Q : VK) (q : ∀ l vs H2, Evl.Ex H1 H2 → H2 l = some (.lst vs) → F2 (RP K H2) vs [(a, b), (c, d)] → Q (.ref l) H2) : tLst (tCons (tTup (tCons (tC (.int a)) (tCons (tC (.int b)) tNil))) (tCons (tTup (tCons (tC (.int c)) (tCons (tC (.int d)) tNil))) tNil)) σ H1 Q :=
  ⟨(show 2 ≤ sizeLine by decide), fun u nu => ⟨(show 2 ≤ sizeLine by decide), fun v nv => ⟨(show 2 ≤ sizeLine by decide), fun l nl => q l _ _ ((Evl.Ex.new nu).trans ((Evl.Ex.new nv).trans (Evl.Ex.new nl))) upd_same
    (.cons ⟨u, rfl, SqT.of (((Evl.Ex.new nv).trans (Evl.Ex.new nl)) _ _ upd_same)⟩ (.cons ⟨v, rfl, SqT.of ((Evl.Ex.new nl) _ _ upd_same)⟩ .nil))⟩⟩⟩
theorem cts_lit {ps : List (Int × Int)} (h : ps.all (fun p => sizB p.1 && sizB p.2) = true) (nd : (ps.map Prod.fst).Nodup) (ln : ps.length ≤ 12) : Cts ps := ⟨nd, ln, fun p hp => Bool.and_eq_true_iff.mp (List.all_eq_true.mp h p hp)⟩
theorem ok_law {f CL CS : Addr} {fd : FuncData} (B : Bl mg) (T : Cs mg) (D_is_integer : Df K mg "is_integer" s_is_integer ["value"]) (D_is_count : Df K mg "is_count" s_is_count ["value"]) (D_is_size : Df K mg "is_size" s_is_size ["value"]) (D_is_run : Df K mg "is_run" s_is_run ["value"]) (D_number_of_all : Df K mg "number_of_all" s_number_of_all ["runs"]) (D_units_of : Df K mg "units_of" s_units_of ["runs", "size"]) (D_joined_runs : Df K mg "joined_runs" s_joined_runs ["runs"]) (D_part_of_runs : Df K mg "part_of_runs" s_part_of_runs ["runs", "first", "last"]) (D_check_size : Df K mg "check_size" s_check_size ["value"]) (D_check_count : Df K mg "check_count" s_check_count ["value"]) (D_check_between : Df K mg "check_between" s_check_between ["value", "low", "high"]) (D_first_gap : Df K mg "first_gap" s_first_gap ["sizes"]) (D_check_lot : Df K mg "check_lot" s_check_lot ["value"]) (D__are_counts : Df K mg "_are_counts" s__are_counts ["value"]) (D_check_store : Df K mg "check_store" s_check_store ["value"]) (D_check_together : Df K mg "check_together" s_check_together ["sizes"]) (D_check_levels : Dfa K mg "check_levels" "_check" s_check_levels ["lot", "store"]) (D_levels_of : Df K mg "levels_of" s_levels_of ["lot", "store"]) (D_fits : Df K mg "fits" s_fits ["lot", "store"]) (D_barring_sizes : Df K mg "barring_sizes" s_barring_sizes ["lot", "store"]) (D_spare : Df K mg "spare" s_spare ["lot", "store", "size"]) (D_check_most : Dfa K mg "check_most" "_check" s_check_most ["lot", "store"]) (D_most_things : Df K mg "most_things" s_most_things ["lot", "store"]) (D_most_total : Df K mg "most_total" s_most_total ["lot", "store"]) (D_keep_things : Df K mg "keep_things" s_keep_things ["lot", "store"]) (D_keep_total : Df K mg "keep_total" s_keep_total ["lot", "store"]) (D__filled : Df K mg "_filled" s__filled ["part", "lot", "store", "sizes"]) (D__is_fitting_part : Df K mg "_is_fitting_part" s__is_fitting_part ["lot", "store", "value"]) (D_things_paper : Df K mg "things_paper" s_things_paper ["lot", "store"]) (D__one_more : Df K mg "_one_more" s__one_more ["lot", "part"]) (D_total_paper : Df K mg "total_paper" s_total_paper ["lot", "store"]) (D_is_things_paper : Df K mg "is_things_paper" s_is_things_paper ["lot", "store", "value"]) (D_is_total_paper : Df K mg "is_total_paper" s_is_total_paper ["lot", "store", "value"]) (D__is_part_paper : Df K mg "_is_part_paper" s__is_part_paper ["lot", "store", "value"]) (D__law_dice : Df K mg "_law_dice" s__law_dice ["script", "spot"]) (D__law_roll : Df K mg "_law_roll" s__law_roll ["dice", "total"]) (D__law_pick : Df K mg "_law_pick" s__law_pick ["dice", "items"]) (D__law_mixed : Df K mg "_law_mixed" s__law_mixed ["dice", "items"]) (D__law_great : Df K mg "_law_great" s__law_great ["dice", "least"]) (D__law_chain : Df K mg "_law_chain" s__law_chain ["dice", "many", "start"]) (D__law_long_chain : Df K mg "_law_long_chain" s__law_long_chain ["dice"]) (D__law_small_lot : Df K mg "_law_small_lot" s__law_small_lot ["dice", "sizes", "most"]) (D__law_small_store : Df K mg "_law_small_store" s__law_small_store ["dice", "greatest", "most"]) (D__law_great_lot : Df K mg "_law_great_lot" s__law_great_lot ["dice", "sizes"]) (D__law_great_store : Df K mg "_law_great_store" s__law_great_store ["dice", "sizes"]) (D__law_merged : Df K mg "_law_merged" s__law_merged ["runs"]) (D__law_made_lot : Df K mg "_law_made_lot" s__law_made_lot ["plain"]) (D__law_made_store : Df K mg "_law_made_store" s__law_made_store ["runs"]) (D__law_total : Df K mg "_law_total" s__law_total ["plain"]) (D__law_units : Df K mg "_law_units" s__law_units ["plain", "size"]) (D__law_space : Df K mg "_law_space" s__law_space ["runs", "size"]) (D__law_bars : Df K mg "_law_bars" s__law_bars ["plain", "runs"]) (D__law_number : Df K mg "_law_number" s__law_number ["plain"]) (D__law_is_part : Df K mg "_law_is_part" s__law_is_part ["part", "plain"]) (D__law_smaller_total : Df K mg "_law_smaller_total" s__law_smaller_total ["plain", "size"]) (D__law_smallest : Df K mg "_law_smallest" s__law_smallest ["plain", "number"]) (D__law_is_shown : Df K mg "_law_is_shown" s__law_is_shown ["plain", "runs", "one", "other"]) (D__law_right : Df K mg "_law_right" s__law_right ["plain", "runs"]) (LT_Lot : LotT K mg CL) (SF_Lot : PySem.W.selfFirst K CL = true) (LK_LotN : LotNK K CL) (DM_Lot_init : Din K mg "Lot" CL "Lot.__init__" s_Lot_init ["self", "counts"]) (DM_Lot_counts : Dpr K CL "counts" "Lot.counts" s_Lot_counts) (DM_Lot_sizes : Dpr K CL "sizes" "Lot.sizes" s_Lot_sizes) (DM_Lot_number : Dpr K CL "number" "Lot.number" s_Lot_number) (DM_Lot_total : Dpr K CL "total" "Lot.total" s_Lot_total) (DM_Lot_units : Dop K CL "units" "Lot.units" s_Lot_units ["self", "size"]) (DM_Lot_is_part_of : Dop K CL "is_part_of" "Lot.is_part_of" s_Lot_is_part_of ["self", "value"]) (DM_Lot_with_count : Dop K CL "with_count" "Lot.with_count" s_Lot_with_count ["self", "size", "number"]) (DM_Lot_add : Dop K CL "__add__" "Lot.__add__" s_Lot_add ["self", "other"]) (DM_Lot_getitem : Dop K CL "__getitem__" "Lot.__getitem__" s_Lot_getitem ["self", "at"]) (DM_Lot_contains : Dop K CL "__contains__" "Lot.__contains__" s_Lot_contains ["self", "x"]) (DM_Lot_len : Dop K CL "__len__" "Lot.__len__" s_Lot_len ["self"]) (DM_Lot_eq : Dop K CL "__eq__" "Lot.__eq__" s_Lot_eq ["self", "other"]) (LT_Store : StoreT K mg CS) (DM_Store_init : Dis K mg "Store" CS "Store.__init__" s_Store_init "runs") (DM_Store_units : Dop K CS "units" "Store.units" s_Store_units ["self", "size"]) (F : Fun K "law" "law" s_law f fd) : FnG P w K mg base CX0 14 f fd ["script"] (spLaw K) := by
  -- haves
  have h_int := ok_int (P := P) (w := w) (base := base) B T D_is_integer
  have h_count := ok_count (P := P) (w := w) (base := base) B D_is_count h_int
  have h_size := ok_size (P := P) (w := w) (base := base) B D_is_size h_int
  have h_gapB := ok_gapB (P := P) (w := w) (base := base) B D_first_gap
  have h_chks := ok_chks (P := P) (w := w) (base := base) B D_check_size h_size
  have h_chkn := ok_chkn (P := P) (w := w) (base := base) B D_check_count h_count
  have h_chklot := ok_chklot (P := P) (w := w) (base := base) B LT_Lot D_check_lot
  have h_arec := ok_arec (P := P) (w := w) (base := base) B T D__are_counts h_size
  have h_lotsizes := ok_lotsizes (P := P) (w := w) (base := base) LT_Lot DM_Lot_sizes
  have h_lottotal := ok_lottotal (P := P) (w := w) (base := base) B LT_Lot DM_Lot_total
  have h_lotitem := ok_lotitem (P := P) (w := w) (base := base) LT_Lot DM_Lot_getitem h_chks
  obtain ⟨M_Lot, M0_Lot⟩ := ok_lotinit (P := P) (w := w) (base := base) B LT_Lot DM_Lot_init h_arec
  have h_noa := ok_noa (P := P) (w := w) (base := base) B D_number_of_all
  have h_lotnum := ok_lotnum (P := P) (w := w) (base := base) LT_Lot DM_Lot_number h_noa
  have h_lotcounts := ok_lotcounts (P := P) (w := w) (base := base) B LT_Lot DM_Lot_counts
  have h_partof := ok_partof (P := P) (w := w) (base := base) B LT_Lot DM_Lot_is_part_of h_lotitem
  have h_isrun := ok_isrun (P := P) (w := w) (base := base) B D_is_run h_size
  have h_unitsof := ok_unitsof (P := P) (w := w) (base := base) B D_units_of
  have h_joinr := ok_joinr (P := P) (w := w) (base := base) B D_joined_runs
  have h_chksto := ok_chksto (P := P) (w := w) (base := base) B LT_Store D_check_store
  have M_Store := ok_stoinit (P := P) (w := w) (base := base) B T LT_Store DM_Store_init h_isrun h_joinr
  have h_stounits := ok_stounits (P := P) (w := w) (base := base) LT_Store DM_Store_units h_chks h_unitsof
  have h_togN := ok_togN (P := P) (w := w) (base := base) B D_check_together h_gapB
  have h_lotunits := ok_lotunits (P := P) (w := w) (base := base) B LT_Lot DM_Lot_units h_chks h_unitsof
  have h_chkL := ok_chkL (P := P) (w := w) (base := base) B D_check_levels h_chklot h_chksto h_togN h_lotsizes
  have h_chkM := ok_chkM (P := P) (w := w) (base := base) B D_check_most h_chklot h_chksto h_togN h_lotsizes
  have h_levels := ok_levels (P := P) (w := w) (base := base) B D_levels_of h_chkL h_lotsizes h_lotunits h_stounits
  have h_barring := ok_barring (P := P) (w := w) (base := base) B D_barring_sizes h_levels
  have h_fits := ok_fits (P := P) (w := w) (base := base) B D_fits h_barring
  have h_chknL := ok_chknL (P := P) (w := w) (base := base) B D_check_count h_count
  have h_lotwith := ok_lotwith (P := P) (w := w) (base := base) B T LT_Lot DM_Lot_with_count h_chks h_chknL M_Lot
  have h_btw := ok_btw (P := P) (w := w) (base := base) B D_check_between h_int
  have h_loteq := ok_loteq (P := P) (w := w) (base := base) B LT_Lot DM_Lot_eq
  have h_lotadd := ok_lotadd (P := P) (w := w) (base := base) B T LT_Lot DM_Lot_add M_Lot
  have h_prt := ok_prt (P := P) (w := w) (base := base) B D_part_of_runs
  have h_spare := ok_spare (P := P) (w := w) (base := base) B D_spare h_chklot h_chksto h_chks h_togN h_fits h_lotsizes h_lotunits h_stounits
  have h_filled := ok_filled (P := P) (w := w) (base := base) B D__filled h_spare h_lotwith h_lotitem
  have h_keepT := ok_keepT (P := P) (w := w) (base := base) B D_keep_things h_chkM h_filled h_lotsizes M0_Lot
  have h_keepW := ok_keepW (P := P) (w := w) (base := base) B D_keep_total h_chkM h_filled h_lotsizes M0_Lot
  have h_mostT := ok_mostT (P := P) (w := w) (base := base) B D_most_things h_keepT h_lotnum
  have h_mostW := ok_mostW (P := P) (w := w) (base := base) B D_most_total h_keepW h_lottotal
  have h_fitp := ok_fitp (P := P) (w := w) (base := base) B LT_Lot D__is_fitting_part h_partof h_fits
  have h_roll := ok_roll (P := P) (w := w) (base := base) B D__law_roll
  have h_dice := ok_dice (P := P) (w := w) (base := base) B D__law_dice
  have h_great := ok_great (P := P) (w := w) (base := base) B D__law_great h_roll
  have h_long := ok_long (P := P) (w := w) (base := base) B D__law_long_chain h_roll
  have h_gl := ok_gl (P := P) (w := w) (base := base) B D__law_great_lot h_roll h_great
  have h_smtF := ok_smtF (P := P) (w := w) (base := base) B D__law_smaller_total
  have h_made := ok_made (P := P) (w := w) (base := base) B D__law_made_lot M_Lot
  have h_tot := ok_tot (P := P) (w := w) (base := base) B D__law_total
  have h_lothasO := ok_lothasO (P := P) (w := w) (base := base) LT_Lot DM_Lot_contains h_size
  have h_onemore := ok_onemore (P := P) (w := w) (base := base) B LT_Lot D__one_more h_prt h_lotcounts h_lotnum M_Lot
  have h_fitA := ok_fitA (P := P) (w := w) (base := base) B LT_Lot D__is_fitting_part h_partof h_fits
  have h_ispap := ok_ispap (P := P) (w := w) (base := base) B LT_Lot D__is_part_paper h_fitA h_loteq h_lothasO
  have h_isT := ok_isT (P := P) (w := w) (base := base) B D_is_things_paper h_chkM h_ispap h_loteq h_barring h_onemore
  have h_isW := ok_isW (P := P) (w := w) (base := base) B D_is_total_paper h_chkM h_ispap h_loteq h_lottotal h_lotsizes h_lotitem h_stounits
  have h_tp := ok_tp (P := P) (w := w) (base := base) B D_things_paper h_keepT h_loteq h_barring h_onemore
  have h_chm := ok_chm (P := P) (w := w) (base := base) B D__law_chain h_roll
  have h_mixv := ok_mixv (P := P) (w := w) (base := base) B D__law_mixed h_roll
  have h_fewm := ok_fewm (P := P) (w := w) (base := base) B D__law_small_lot h_roll h_mixv
  have h_sms := ok_sms (P := P) (w := w) (base := base) B D__law_small_store h_roll
  have h_pickS := ok_pickS (P := P) (w := w) (base := base) B D__law_pick h_roll
  have h_grs := ok_grs (P := P) (w := w) (base := base) B D__law_great_store h_roll h_pickS h_great
  have h_space := ok_space (P := P) (w := w) (base := base) B D__law_space
  have h_unl := ok_unl (P := P) (w := w) (base := base) B D__law_units
  have h_bars := ok_bars (P := P) (w := w) (base := base) B D__law_bars h_unl h_space
  have h_madeG := ok_madeG (P := P) (w := w) (base := base) B D__law_made_store M_Store
  have h_lip := ok_lip (P := P) (w := w) (base := base) B D__law_is_part
  have h_mrg := ok_mrg (P := P) (w := w) (base := base) B D__law_merged
  have h_num := ok_num (P := P) (w := w) (base := base) B D__law_number
  have h_sml := ok_sml (P := P) (w := w) (base := base) B D__law_smallest
  have h_smt := ok_smt (P := P) (w := w) (base := base) B D__law_smaller_total
  have h_tpS := ok_tpS (P := P) (w := w) (base := base) B D_things_paper h_keepT h_loteq h_barring h_onemore
  have h_wpS := ok_wpS (P := P) (w := w) (base := base) B D_total_paper h_keepW h_lotsizes h_lotitem
  have h_shown := ok_shown (P := P) (w := w) (base := base) B D__law_is_shown h_lip h_bars h_sml h_num h_tot h_space h_smt h_lotcounts
  have h_right := ok_right (P := P) (w := w) (base := base) B LT_Lot D__law_right h_mrg h_made h_madeG h_shown h_tpS h_wpS h_mostT h_mostW h_isT h_isW h_lotnum h_lottotal
  have C__law_chain := h_chm
  have C__law_dice := h_dice
  have C__law_great_lot := h_gl
  have C__law_great_store := h_grs
  have C__law_long_chain := h_long
  have C__law_right := h_right
  have C__law_small_lot := h_fewm
  have C__law_small_store := h_sms
  refine Fun.okG F sc_law (fun vs H Q E h => ?_) (fun cdv A fr s H vs Q E hr hgd h => ?_)
  · obtain ⟨a, ns, rfl, _⟩ := h
    rfl
  · obtain ⟨a, ns, rfl, hS, hlen, q⟩ := h
    refine ⟨_, PSs.nox (pss_cons (ps_for PassesOwn.never rfl (pi_range1 (by rfl) B.range (pa_cons (pe_callB (call_max2 rfl) (by rfl) B.max bt_max (pa_cons pe_int (pa_cons (pe_callB (call_min2 rfl) (by rfl) B.min bt_min (pa_cons pe_int (pa_cons (pe_callB call_len_seq (by rfl) B.len bt_len (pa_cons (pv 0) pa_nil)) pa_nil))) pa_nil))) pa_nil)) (pg_name (i := 1) sc_law.nd rfl (by first | exact Or.inl rfl | exact Or.inr rfl)) (pss_cons (ps_set (i := 2) sc_law.nd rfl (by first | exact Or.inl rfl | exact Or.inr rfl) (pcg C__law_dice hr hgd (pa_cons (pv 0) (pa_cons (pv 1) pa_nil))))
    (pss_one (ps_for PassesOwn.never rfl (pi_range1 (by rfl) B.range (pa_cons pe_int pa_nil)) (pg_name (i := 3) sc_law.nd rfl (by first | exact Or.inl rfl | exact Or.inr rfl)) (pss_cons (ps_par (i := 4) (j := 5) rfl sc_law.nd rfl rfl (by decide) rfl rfl (pa_cons (pcg C__law_chain hr hgd (pa_cons (pv 2) (pa_cons pe_int (pa_cons pe_int pa_nil)))) (pa_cons (pcg C__law_long_chain hr hgd (pa_cons (pv 2) pa_nil)) pa_nil)) (by rfl))
    (pss_cons (ps_if (pt_not (pt_val (pcg C__law_right hr hgd (pa_cons (pcg C__law_small_lot hr hgd (pa_cons (pv 2) (pa_cons (pv 4) (pa_cons pe_int pa_nil)))) (pa_cons (pcg C__law_small_store hr hgd (pa_cons (pv 2) (pa_cons pe_int (pa_cons pe_int pa_nil)))) pa_nil))))) (pss_one (ps_ret pe_bl)) pss_nil)
     (pss_one (ps_if (pt_not (pt_val (pcg C__law_right hr hgd (pa_cons (pcg C__law_great_lot hr hgd (pa_cons (pv 2) (pa_cons (pv 5) pa_nil))) (pa_cons (pcg C__law_great_store hr hgd (pa_cons (pv 2) (pa_cons (pv 5) pa_nil))) pa_nil))))) (pss_one (ps_ret pe_bl)) pss_nil))))))))
    (pss_one (ps_ret (pe_and (pcg C__law_right hr hgd (pa_cons (pe_disp (pps_cons pe_int pe_int (pps_cons pe_int pe_int (pps_cons pe_int pe_int pps_nil))) (by rfl) (by rfl) (fun z => by cases z) (by decide)) (pa_cons (pe_lst (pa_cons (pe_tup (pa_cons pe_int (pa_cons pe_int pa_nil))) (pa_cons (pe_tup (pa_cons pe_int (pa_cons pe_int pa_nil))) pa_nil))) pa_nil))) (pe_and (pcg C__law_right hr hgd (pa_cons pe_dnewK (pa_cons (pe_lst pa_nil) pa_nil))) (pe_one (pcg C__law_right hr hgd (pa_cons (pe_disp (pps_cons pe_int pe_int pps_nil) (by rfl) (by rfl) (fun z => by cases z) (by decide)) (pa_cons (pe_lst pa_nil) pa_nil))))))))), ?_⟩
    have e28 : (20 : Int) < 10 ^ 28 := by decide +kernel
    have e32 : (3 : Int) < 10 ^ 32 := by decide +kernel
    refine spots (K := K) (m := 5) (k := 4) (by decide) rfl (by decide) hS ?_ ?_
    · rintro sp r H1 hr1 hs
      match r, hr1 with
      | [v2, v3, v4, v5], _ =>
      refine ⟨.ref a, rfl, .int sp, rfl, a, sp, ns, rfl, hs.seq hS, fun d hd H2 hdice k => ?_⟩
      have hd0 : H d = none := hs.free hd
      have hs2 : Same H H2 := fun b o e => (k b (ne_of_none e hd0)).trans (hs b o e)
      refine turnsE (m := 2) (n := 4) (d := d) (H0 := H) (by decide) ⟨⟨_, [_, _, _], rfl, rfl⟩, hs2, hdice⟩ ?_ ?_
      · rintro t s' r H3 hr3 hs3 hd3
        match r, hr3 with
        | [x4, x5], _ =>
        refine q_parP (P := fun x y H' => ∃ (p : Addr) (ns : List Int) (L : Int) (p2 : Addr) (ms : List Int) (M : Int), x = .ref p ∧ y = .ref p2 ∧ Kd d H3 H' ∧ p ≠ d ∧ SqT K H' p (ns.map V.int) ∧ ns.length ≤ 3 ∧ Chd ns L ∧ L ≤ 48 ∧ p2 ≠ d ∧ SqT K H' p2 (ms.map V.int) ∧ ms.length ≤ 6 ∧ Chd ms M ∧ M < 10 ^ 27)
          (fun Q2 q2 => ⟨.ref d, rfl, d, 3, 3, rfl, by decide, by decide, by decide, by decide, hd3, fun p ns L H4 k4 pd hp hl hc hL => ⟨.ref d, rfl, d, rfl, k4.2, fun p2 ms M H5 k5 pd2 hp2 hl2 hc2 hL2 => q2 _ _ _ ⟨p, ns, L, p2, ms, M, rfl, rfl, k4.trans k5, pd, k5.1.sqT pd hp, hl, hc, hL, pd2, hp2, hl2, hc2, hL2⟩⟩⟩) ?_
        rintro _ _ H4 ⟨p, ns', L, p2, ms, M, rfl, rfl, k4, pd, hp, hl, hc, hL, pd2, hp2, hl2, hc2, hL2⟩
        refine ⟨.ref d, rfl, .ref p, rfl, d, p, 9, ns', rfl, by decide, by decide, pd, k4.2, hp, by omega, hc.nodup, fun g ps H5 k5 gd hg hfew => sms_k (K := K) rfl Evl.ev_c (by decide) (by decide) (by decide) (by decide) k5.2 fun l vs rs H6 k6 ld nl hl6 hf6 hsm => ?_⟩
        have ic := chd_isc hc (by omega) (Int.lt_of_le_of_lt hL (by decide))
        have ct := few_cts ic hfew (by decide)
        obtain ⟨lc, _⟩ := few_lot ic hfew (by decide) (srt_perm ps) (srt_asc ct.nd)
        have so := smr_sto hsm (by omega) (by decide)
        have jl : (jr rs).length ≤ 8 := by have := jr_len rs; have := hsm.ln; omega
        have sor : StoOk rs := sto_pos (fun r hr => by
          obtain ⟨x, y⟩ := hsm.ok r hr
          have c := (snd_each fun r hr => (hsm.ok r hr).2).2 r hr
          have := hsm.sum
          exact ⟨⟨x.1, by omega⟩, y, by omega⟩) (by have := hsm.ln; omega)
        refine ⟨g, l, ps, rs, rfl, k6.1 g _ gd hg, ct, lc, ⟨vs, SqL.of hl6, hf6⟩, sor, so, jl, fun H7 e7 => ⟨true, rfl, iteF ?_⟩⟩
        have k7 := k4.trans ((k5.trans k6).to e7)
        have k47 := (k5.trans k6).to e7
        have hp27 := k47.1.sqT pd2 hp2
        have ic2 := chd_isc hc2 hl2 hL2
        have nb : ∀ n ∈ ms, 0 < n ∧ n < 10 ^ 27 := fun n hn => ⟨(hc2.pos n hn).1, Int.lt_of_le_of_lt (hc2.pos n hn).2.1 hL2⟩
        refine ⟨.ref d, rfl, .ref p2, rfl, d, p2, ms, rfl, pd2, k7.2, hp27, by omega, hc2.nodup, fun g2 qs H8 k8 gd2 hg2 hgr => ⟨.ref d, rfl, .ref p2, rfl, d, p2, ms, rfl, pd2, k8.2, k8.1.sqT pd2 hp27, ic2.ne, by omega, nb, fun l2 vs2 rs2 H9 k9 ld2 nl2 hl29 hf29 hne hGr => ?_⟩⟩
        have ct2 : Cts qs := ⟨hgr.nd, by have := hgr.ln; omega, fun x hx => by
          obtain ⟨m, y0, y1⟩ := hgr.sub x hx
          obtain ⟨n0, n1⟩ := ic2.sz _ m
          have big : (10 : Int) ^ 31 < 10 ^ 200 := by decide +kernel
          exact ⟨siz_of n0 n1, siz_of y0 (by omega)⟩⟩
        obtain ⟨lc2, _⟩ := cut_lotC ic2 ct2 (fun x hx => (hgr.sub x hx).1) (srt_perm qs) (srt_asc ct2.nd)
        refine ⟨g2, l2, qs, rs2, rfl, k9.1 g2 _ gd2 hg2, ct2, lc2, ⟨vs2, SqL.of hl29, hf29⟩, sto_pos hGr.ok (by have := hGr.ln; omega), gr_sto hGr, by have := jr_len rs2; have := hGr.ln; omega, fun H10 e10 => ⟨true, rfl, iteF ?_⟩⟩
        have k10 := k7.trans ((k8.trans k9).to e10)
        exact ⟨⟨_, [_, _, _], rfl, rfl⟩, fun b o e => k10.1 b o (ne_of_none e hd0) (hs3 b o e), k10.2⟩
      · intro s' r H3 hr3 hs3 hd3
        match r, hr3 with
        | [w3, w4, w5], _ => exact ⟨⟨_, rfl, rfl⟩, hs3⟩
    · rintro r H1 hr1 hs
      have c1 : Cts [(1, 2), (4, 2), (8, 2)] := cts_lit (by decide +kernel) (by decide +kernel) (by decide)
      have c2 : Cts [(3, 1)] := cts_lit (by decide +kernel) (by decide +kernel) (by decide)
      have L1 : LotC [(1, 2), (4, 2), (8, 2)] := ⟨c1, (show List.Pairwise _ _ by decide +kernel), by decide +kernel⟩
      have L2 : LotC [(3, 1)] := ⟨c2, (show List.Pairwise _ _ by decide +kernel), by decide +kernel⟩
      have s0 : srt ([] : List (Int × Int)) = [] := srt_lot lotc_nil
      have p0 : ∀ (l : List (Int × Int)), l.all (fun r => decide (0 < r.1) && decide (r.1 < 100) && decide (0 < r.2) && decide (r.2 < 100)) = true → l.length ≤ 40 → StoOk l := fun l h ln => sto_pos (fun r hr => by
        have k := List.all_eq_true.mp h r hr
        simp only [Bool.and_eq_true, decide_eq_true_eq] at k
        have e0 : (10 : Int) ^ 28 = 10000000000000000000000000000 := by decide +kernel
        have e1 : (10 : Int) ^ 32 = 100000000000000000000000000000000 := by decide +kernel
        exact ⟨⟨k.1.1.1, by omega⟩, k.1.2, by omega⟩) ln
      have j0 : jr [((9 : Int), (1 : Int)), (4, 1)] = [(9, 1), (4, 1)] := by decide +kernel
      refine Evl.s_ret (Evl.ev_is (Evl.ev_andV (a := true) (b := true) (rgt_lit (K := K) (fun H2 Q q => disp3 (by decide +kernel) Q q) (fun H2 Q q => pr_two H2 Q q) c1 (by rw [srt_lot L1]; exact L1) (p0 _ (by decide +kernel) (by decide)) (by rw [j0]; exact p0 _ (by decide +kernel) (by decide)) (by rw [j0]; decide))
        (fun _ => Evl.ev_is (Evl.ev_andV (a := true) (b := true) (rgt_lit (K := K) (ps := []) (rs := []) (fun H2 Q q => fun p np => q p _ (Evl.Ex.new np) upd_same) (fun H2 Q q => ⟨(show 0 ≤ sizeLine by decide), fun l nl => q l _ _ (Evl.Ex.new nl) upd_same .nil⟩) cts_nil (by rw [s0]; exact lotc_nil) (p0 _ rfl (by decide)) (p0 _ rfl (by decide)) (by decide))
          (fun _ => rgt_lit (K := K) (rs := []) (fun H2 Q q => disp1 Q q) (fun H2 Q q => ⟨(show 0 ≤ sizeLine by decide), fun l nl => q l _ _ (Evl.Ex.new nl) upd_same .nil⟩) c2 (by rw [srt_lot L2]; exact L2) (p0 _ rfl (by decide)) (p0 _ rfl (by decide)) (by decide))) rfl)) rfl) (fun H2 _ => q H2)
theorem start_law {H : Hp} {a : Addr} {ns : List Int} (hl : ns.length ≤ 63) (hS : SqL K H a (ns.map V.int)) : spLaw K [.ref a] H (fun v _ => v = .bl true) fun _ _ _ => False := ⟨a, ns, rfl, hS, hl, fun _ => rfl⟩

end
def fe0 : FnE := ⟨fun K => He.ga K "is_integer", "is_integer", "is_integer", defArgs s_is_integer, defBody s_is_integer, defScope s_is_integer, false⟩
def fe1 : FnE := ⟨fun K => He.ga K "is_count", "is_count", "is_count", defArgs s_is_count, defBody s_is_count, defScope s_is_count, false⟩
def fe2 : FnE := ⟨fun K => He.ga K "is_size", "is_size", "is_size", defArgs s_is_size, defBody s_is_size, defScope s_is_size, false⟩
def fe3 : FnE := ⟨fun K => He.ga K "is_run", "is_run", "is_run", defArgs s_is_run, defBody s_is_run, defScope s_is_run, false⟩
def fe4 : FnE := ⟨fun K => He.ga K "number_of_all", "number_of_all", "number_of_all", defArgs s_number_of_all, defBody s_number_of_all, defScope s_number_of_all, false⟩
def fe5 : FnE := ⟨fun K => He.ga K "units_of", "units_of", "units_of", defArgs s_units_of, defBody s_units_of, defScope s_units_of, false⟩
def fe6 : FnE := ⟨fun K => He.ga K "joined_runs", "joined_runs", "joined_runs", defArgs s_joined_runs, defBody s_joined_runs, defScope s_joined_runs, false⟩
def fe7 : FnE := ⟨fun K => He.ga K "part_of_runs", "part_of_runs", "part_of_runs", defArgs s_part_of_runs, defBody s_part_of_runs, defScope s_part_of_runs, false⟩
def fe8 : FnE := ⟨fun K => He.ga K "check_size", "check_size", "check_size", defArgs s_check_size, defBody s_check_size, defScope s_check_size, false⟩
def fe9 : FnE := ⟨fun K => He.ga K "check_count", "check_count", "check_count", defArgs s_check_count, defBody s_check_count, defScope s_check_count, false⟩
def fe10 : FnE := ⟨fun K => He.ga K "check_between", "check_between", "check_between", defArgs s_check_between, defBody s_check_between, defScope s_check_between, false⟩
def fe11 : FnE := ⟨fun K => He.ga K "first_gap", "first_gap", "first_gap", defArgs s_first_gap, defBody s_first_gap, defScope s_first_gap, false⟩
def fe12 : FnE := ⟨fun K => He.ga K "check_lot", "check_lot", "check_lot", defArgs s_check_lot, defBody s_check_lot, defScope s_check_lot, false⟩
def fe13 : FnE := ⟨fun K => He.ga K "_are_counts", "_are_counts", "_are_counts", defArgs s__are_counts, defBody s__are_counts, defScope s__are_counts, false⟩
def fe14 : FnE := ⟨fun K => He.ga K "check_store", "check_store", "check_store", defArgs s_check_store, defBody s_check_store, defScope s_check_store, false⟩
def fe15 : FnE := ⟨fun K => He.ga K "check_together", "check_together", "check_together", defArgs s_check_together, defBody s_check_together, defScope s_check_together, false⟩
def fe16 : FnE := ⟨fun K => He.ga K "check_levels", "_check", "_check", defArgs s_check_levels, defBody s_check_levels, defScope s_check_levels, false⟩
def fe17 : FnE := ⟨fun K => He.ga K "levels_of", "levels_of", "levels_of", defArgs s_levels_of, defBody s_levels_of, defScope s_levels_of, false⟩
def fe18 : FnE := ⟨fun K => He.ga K "fits", "fits", "fits", defArgs s_fits, defBody s_fits, defScope s_fits, false⟩
def fe19 : FnE := ⟨fun K => He.ga K "barring_sizes", "barring_sizes", "barring_sizes", defArgs s_barring_sizes, defBody s_barring_sizes, defScope s_barring_sizes, false⟩
def fe20 : FnE := ⟨fun K => He.ga K "spare", "spare", "spare", defArgs s_spare, defBody s_spare, defScope s_spare, false⟩
def fe21 : FnE := ⟨fun K => He.ga K "check_most", "_check", "_check", defArgs s_check_most, defBody s_check_most, defScope s_check_most, false⟩
def fe22 : FnE := ⟨fun K => He.ga K "most_things", "most_things", "most_things", defArgs s_most_things, defBody s_most_things, defScope s_most_things, false⟩
def fe23 : FnE := ⟨fun K => He.ga K "most_total", "most_total", "most_total", defArgs s_most_total, defBody s_most_total, defScope s_most_total, false⟩
def fe24 : FnE := ⟨fun K => He.ga K "keep_things", "keep_things", "keep_things", defArgs s_keep_things, defBody s_keep_things, defScope s_keep_things, false⟩
def fe25 : FnE := ⟨fun K => He.ga K "keep_total", "keep_total", "keep_total", defArgs s_keep_total, defBody s_keep_total, defScope s_keep_total, false⟩
def fe26 : FnE := ⟨fun K => He.ga K "_filled", "_filled", "_filled", defArgs s__filled, defBody s__filled, defScope s__filled, false⟩
def fe27 : FnE := ⟨fun K => He.ga K "_is_fitting_part", "_is_fitting_part", "_is_fitting_part", defArgs s__is_fitting_part, defBody s__is_fitting_part, defScope s__is_fitting_part, false⟩
def fe28 : FnE := ⟨fun K => He.ga K "things_paper", "things_paper", "things_paper", defArgs s_things_paper, defBody s_things_paper, defScope s_things_paper, false⟩
def fe29 : FnE := ⟨fun K => He.ga K "_one_more", "_one_more", "_one_more", defArgs s__one_more, defBody s__one_more, defScope s__one_more, false⟩
def fe30 : FnE := ⟨fun K => He.ga K "total_paper", "total_paper", "total_paper", defArgs s_total_paper, defBody s_total_paper, defScope s_total_paper, false⟩
def fe31 : FnE := ⟨fun K => He.ga K "is_things_paper", "is_things_paper", "is_things_paper", defArgs s_is_things_paper, defBody s_is_things_paper, defScope s_is_things_paper, false⟩
def fe32 : FnE := ⟨fun K => He.ga K "is_total_paper", "is_total_paper", "is_total_paper", defArgs s_is_total_paper, defBody s_is_total_paper, defScope s_is_total_paper, false⟩
def fe33 : FnE := ⟨fun K => He.ga K "_is_part_paper", "_is_part_paper", "_is_part_paper", defArgs s__is_part_paper, defBody s__is_part_paper, defScope s__is_part_paper, false⟩
def fe34 : FnE := ⟨fun K => He.ga K "_law_dice", "_law_dice", "_law_dice", defArgs s__law_dice, defBody s__law_dice, defScope s__law_dice, false⟩
def fe35 : FnE := ⟨fun K => He.ga K "_law_roll", "_law_roll", "_law_roll", defArgs s__law_roll, defBody s__law_roll, defScope s__law_roll, false⟩
def fe36 : FnE := ⟨fun K => He.ga K "_law_pick", "_law_pick", "_law_pick", defArgs s__law_pick, defBody s__law_pick, defScope s__law_pick, false⟩
def fe37 : FnE := ⟨fun K => He.ga K "_law_mixed", "_law_mixed", "_law_mixed", defArgs s__law_mixed, defBody s__law_mixed, defScope s__law_mixed, false⟩
def fe38 : FnE := ⟨fun K => He.ga K "_law_great", "_law_great", "_law_great", defArgs s__law_great, defBody s__law_great, defScope s__law_great, false⟩
def fe39 : FnE := ⟨fun K => He.ga K "_law_chain", "_law_chain", "_law_chain", defArgs s__law_chain, defBody s__law_chain, defScope s__law_chain, false⟩
def fe40 : FnE := ⟨fun K => He.ga K "_law_long_chain", "_law_long_chain", "_law_long_chain", defArgs s__law_long_chain, defBody s__law_long_chain, defScope s__law_long_chain, false⟩
def fe41 : FnE := ⟨fun K => He.ga K "_law_small_lot", "_law_small_lot", "_law_small_lot", defArgs s__law_small_lot, defBody s__law_small_lot, defScope s__law_small_lot, false⟩
def fe42 : FnE := ⟨fun K => He.ga K "_law_small_store", "_law_small_store", "_law_small_store", defArgs s__law_small_store, defBody s__law_small_store, defScope s__law_small_store, false⟩
def fe43 : FnE := ⟨fun K => He.ga K "_law_great_lot", "_law_great_lot", "_law_great_lot", defArgs s__law_great_lot, defBody s__law_great_lot, defScope s__law_great_lot, false⟩
def fe44 : FnE := ⟨fun K => He.ga K "_law_great_store", "_law_great_store", "_law_great_store", defArgs s__law_great_store, defBody s__law_great_store, defScope s__law_great_store, false⟩
def fe45 : FnE := ⟨fun K => He.ga K "_law_merged", "_law_merged", "_law_merged", defArgs s__law_merged, defBody s__law_merged, defScope s__law_merged, false⟩
def fe46 : FnE := ⟨fun K => He.ga K "_law_made_lot", "_law_made_lot", "_law_made_lot", defArgs s__law_made_lot, defBody s__law_made_lot, defScope s__law_made_lot, false⟩
def fe47 : FnE := ⟨fun K => He.ga K "_law_made_store", "_law_made_store", "_law_made_store", defArgs s__law_made_store, defBody s__law_made_store, defScope s__law_made_store, false⟩
def fe48 : FnE := ⟨fun K => He.ga K "_law_total", "_law_total", "_law_total", defArgs s__law_total, defBody s__law_total, defScope s__law_total, false⟩
def fe49 : FnE := ⟨fun K => He.ga K "_law_units", "_law_units", "_law_units", defArgs s__law_units, defBody s__law_units, defScope s__law_units, false⟩
def fe50 : FnE := ⟨fun K => He.ga K "_law_space", "_law_space", "_law_space", defArgs s__law_space, defBody s__law_space, defScope s__law_space, false⟩
def fe51 : FnE := ⟨fun K => He.ga K "_law_bars", "_law_bars", "_law_bars", defArgs s__law_bars, defBody s__law_bars, defScope s__law_bars, false⟩
def fe52 : FnE := ⟨fun K => He.ga K "_law_number", "_law_number", "_law_number", defArgs s__law_number, defBody s__law_number, defScope s__law_number, false⟩
def fe53 : FnE := ⟨fun K => He.ga K "_law_is_part", "_law_is_part", "_law_is_part", defArgs s__law_is_part, defBody s__law_is_part, defScope s__law_is_part, false⟩
def fe54 : FnE := ⟨fun K => He.ga K "_law_smaller_total", "_law_smaller_total", "_law_smaller_total", defArgs s__law_smaller_total, defBody s__law_smaller_total, defScope s__law_smaller_total, false⟩
def fe55 : FnE := ⟨fun K => He.ga K "_law_smallest", "_law_smallest", "_law_smallest", defArgs s__law_smallest, defBody s__law_smallest, defScope s__law_smallest, false⟩
def fe56 : FnE := ⟨fun K => He.ga K "_law_is_shown", "_law_is_shown", "_law_is_shown", defArgs s__law_is_shown, defBody s__law_is_shown, defScope s__law_is_shown, false⟩
def fe57 : FnE := ⟨fun K => He.ga K "_law_right", "_law_right", "_law_right", defArgs s__law_right, defBody s__law_right, defScope s__law_right, false⟩
def fe58 : FnE := ⟨fun K => He.ga K "law", "law", "law", defArgs s_law, defBody s_law, defScope s_law, false⟩
def fe59 : FnE := ⟨fun K => mP K "Lot" "__init__", "__init__", "Lot.__init__", defArgs s_Lot_init, defBody s_Lot_init, defScope s_Lot_init, true⟩
def fe60 : FnE := ⟨fun K => gP K "Lot" "counts", "counts", "Lot.counts", defArgs s_Lot_counts, defBody s_Lot_counts, defScope s_Lot_counts, false⟩
def fe61 : FnE := ⟨fun K => gP K "Lot" "sizes", "sizes", "Lot.sizes", defArgs s_Lot_sizes, defBody s_Lot_sizes, defScope s_Lot_sizes, false⟩
def fe62 : FnE := ⟨fun K => gP K "Lot" "number", "number", "Lot.number", defArgs s_Lot_number, defBody s_Lot_number, defScope s_Lot_number, false⟩
def fe63 : FnE := ⟨fun K => gP K "Lot" "total", "total", "Lot.total", defArgs s_Lot_total, defBody s_Lot_total, defScope s_Lot_total, false⟩
def fe64 : FnE := ⟨fun K => mP K "Lot" "units", "units", "Lot.units", defArgs s_Lot_units, defBody s_Lot_units, defScope s_Lot_units, false⟩
def fe65 : FnE := ⟨fun K => mP K "Lot" "is_part_of", "is_part_of", "Lot.is_part_of", defArgs s_Lot_is_part_of, defBody s_Lot_is_part_of, defScope s_Lot_is_part_of, false⟩
def fe66 : FnE := ⟨fun K => mP K "Lot" "with_count", "with_count", "Lot.with_count", defArgs s_Lot_with_count, defBody s_Lot_with_count, defScope s_Lot_with_count, false⟩
def fe67 : FnE := ⟨fun K => mP K "Lot" "__add__", "__add__", "Lot.__add__", defArgs s_Lot_add, defBody s_Lot_add, defScope s_Lot_add, false⟩
def fe68 : FnE := ⟨fun K => mP K "Lot" "__getitem__", "__getitem__", "Lot.__getitem__", defArgs s_Lot_getitem, defBody s_Lot_getitem, defScope s_Lot_getitem, false⟩
def fe69 : FnE := ⟨fun K => mP K "Lot" "__contains__", "__contains__", "Lot.__contains__", defArgs s_Lot_contains, defBody s_Lot_contains, defScope s_Lot_contains, false⟩
def fe70 : FnE := ⟨fun K => mP K "Lot" "__len__", "__len__", "Lot.__len__", defArgs s_Lot_len, defBody s_Lot_len, defScope s_Lot_len, false⟩
def fe71 : FnE := ⟨fun K => mP K "Lot" "__eq__", "__eq__", "Lot.__eq__", defArgs s_Lot_eq, defBody s_Lot_eq, defScope s_Lot_eq, false⟩
def fe72 : FnE := ⟨fun K => mP K "Store" "__init__", "__init__", "Store.__init__", defArgs s_Store_init, defBody s_Store_init, defScope s_Store_init, false⟩
def fe73 : FnE := ⟨fun K => mP K "Store" "units", "units", "Store.units", defArgs s_Store_units, defBody s_Store_units, defScope s_Store_units, false⟩
def fnl : List FnE := fe0 :: fe1 :: fe2 :: fe3 :: fe4 :: fe5 :: fe6 :: fe7 :: fe8 :: fe9 :: fe10 :: fe11 :: fe12 :: fe13 :: fe14 :: fe15 :: fe16 :: fe17 :: fe18 :: fe19 :: fe20 :: fe21 :: fe22 :: fe23 :: fe24 :: fe25 :: fe26 :: fe27 :: fe28 :: fe29 :: fe30 :: fe31 :: fe32 :: fe33 :: fe34 :: fe35 :: fe36 :: fe37 :: fe38 :: fe39 :: fe40 :: fe41 :: fe42 :: fe43 :: fe44 :: fe45 :: fe46 :: fe47 :: fe48 :: fe49 :: fe50 :: fe51 :: fe52 :: fe53 :: fe54 :: fe55 :: fe56 :: fe57 :: fe58 :: fe59 :: fe60 :: fe61 :: fe62 :: fe63 :: fe64 :: fe65 :: fe66 :: fe67 :: fe68 :: fe69 :: fe70 :: fe71 :: fe72 :: fe73 :: []
def ck0 : List (PySem.W.Frag → Bool) := [
  fun K => decide (PySem.W.nsIn K mainGlobals "is_integer" = some (some (.ref (He.ga K "is_integer")))),
  fun K => decide (PySem.W.keepIn K (.ref (He.ga K "is_integer")) = true),
  fun K => decide (PySem.W.nsIn K mainGlobals "is_count" = some (some (.ref (He.ga K "is_count")))),
  fun K => decide (PySem.W.keepIn K (.ref (He.ga K "is_count")) = true),
  fun K => decide (PySem.W.nsIn K mainGlobals "is_size" = some (some (.ref (He.ga K "is_size")))),
  fun K => decide (PySem.W.keepIn K (.ref (He.ga K "is_size")) = true),
  fun K => decide (PySem.W.nsIn K mainGlobals "is_run" = some (some (.ref (He.ga K "is_run")))),
  fun K => decide (PySem.W.keepIn K (.ref (He.ga K "is_run")) = true),
  fun K => decide (PySem.W.nsIn K mainGlobals "number_of_all" = some (some (.ref (He.ga K "number_of_all")))),
  fun K => decide (PySem.W.keepIn K (.ref (He.ga K "number_of_all")) = true),
  fun K => decide (PySem.W.nsIn K mainGlobals "units_of" = some (some (.ref (He.ga K "units_of")))),
  fun K => decide (PySem.W.keepIn K (.ref (He.ga K "units_of")) = true)]
def ck1 : List (PySem.W.Frag → Bool) := [
  fun K => decide (PySem.W.nsIn K mainGlobals "joined_runs" = some (some (.ref (He.ga K "joined_runs")))),
  fun K => decide (PySem.W.keepIn K (.ref (He.ga K "joined_runs")) = true),
  fun K => decide (PySem.W.nsIn K mainGlobals "part_of_runs" = some (some (.ref (He.ga K "part_of_runs")))),
  fun K => decide (PySem.W.keepIn K (.ref (He.ga K "part_of_runs")) = true),
  fun K => decide (PySem.W.nsIn K mainGlobals "check_size" = some (some (.ref (He.ga K "check_size")))),
  fun K => decide (PySem.W.keepIn K (.ref (He.ga K "check_size")) = true),
  fun K => decide (PySem.W.nsIn K mainGlobals "check_count" = some (some (.ref (He.ga K "check_count")))),
  fun K => decide (PySem.W.keepIn K (.ref (He.ga K "check_count")) = true),
  fun K => decide (PySem.W.nsIn K mainGlobals "check_between" = some (some (.ref (He.ga K "check_between")))),
  fun K => decide (PySem.W.keepIn K (.ref (He.ga K "check_between")) = true),
  fun K => decide (PySem.W.nsIn K mainGlobals "first_gap" = some (some (.ref (He.ga K "first_gap")))),
  fun K => decide (PySem.W.keepIn K (.ref (He.ga K "first_gap")) = true)]
def ck2 : List (PySem.W.Frag → Bool) := [
  fun K => decide (PySem.W.nsIn K mainGlobals "check_lot" = some (some (.ref (He.ga K "check_lot")))),
  fun K => decide (PySem.W.keepIn K (.ref (He.ga K "check_lot")) = true),
  fun K => decide (PySem.W.nsIn K mainGlobals "_are_counts" = some (some (.ref (He.ga K "_are_counts")))),
  fun K => decide (PySem.W.keepIn K (.ref (He.ga K "_are_counts")) = true),
  fun K => decide (PySem.W.nsIn K mainGlobals "check_store" = some (some (.ref (He.ga K "check_store")))),
  fun K => decide (PySem.W.keepIn K (.ref (He.ga K "check_store")) = true),
  fun K => decide (PySem.W.nsIn K mainGlobals "check_together" = some (some (.ref (He.ga K "check_together")))),
  fun K => decide (PySem.W.keepIn K (.ref (He.ga K "check_together")) = true),
  fun K => decide (PySem.W.nsIn K mainGlobals "check_levels" = some (some (.ref (He.ga K "check_levels")))),
  fun K => decide (PySem.W.keepIn K (.ref (He.ga K "check_levels")) = true),
  fun K => decide (PySem.W.nsIn K mainGlobals "levels_of" = some (some (.ref (He.ga K "levels_of")))),
  fun K => decide (PySem.W.keepIn K (.ref (He.ga K "levels_of")) = true)]
def ck3 : List (PySem.W.Frag → Bool) := [
  fun K => decide (PySem.W.nsIn K mainGlobals "fits" = some (some (.ref (He.ga K "fits")))),
  fun K => decide (PySem.W.keepIn K (.ref (He.ga K "fits")) = true),
  fun K => decide (PySem.W.nsIn K mainGlobals "barring_sizes" = some (some (.ref (He.ga K "barring_sizes")))),
  fun K => decide (PySem.W.keepIn K (.ref (He.ga K "barring_sizes")) = true),
  fun K => decide (PySem.W.nsIn K mainGlobals "spare" = some (some (.ref (He.ga K "spare")))),
  fun K => decide (PySem.W.keepIn K (.ref (He.ga K "spare")) = true),
  fun K => decide (PySem.W.nsIn K mainGlobals "check_most" = some (some (.ref (He.ga K "check_most")))),
  fun K => decide (PySem.W.keepIn K (.ref (He.ga K "check_most")) = true),
  fun K => decide (PySem.W.nsIn K mainGlobals "most_things" = some (some (.ref (He.ga K "most_things")))),
  fun K => decide (PySem.W.keepIn K (.ref (He.ga K "most_things")) = true),
  fun K => decide (PySem.W.nsIn K mainGlobals "most_total" = some (some (.ref (He.ga K "most_total")))),
  fun K => decide (PySem.W.keepIn K (.ref (He.ga K "most_total")) = true)]
def ck4 : List (PySem.W.Frag → Bool) := [
  fun K => decide (PySem.W.nsIn K mainGlobals "keep_things" = some (some (.ref (He.ga K "keep_things")))),
  fun K => decide (PySem.W.keepIn K (.ref (He.ga K "keep_things")) = true),
  fun K => decide (PySem.W.nsIn K mainGlobals "keep_total" = some (some (.ref (He.ga K "keep_total")))),
  fun K => decide (PySem.W.keepIn K (.ref (He.ga K "keep_total")) = true),
  fun K => decide (PySem.W.nsIn K mainGlobals "_filled" = some (some (.ref (He.ga K "_filled")))),
  fun K => decide (PySem.W.keepIn K (.ref (He.ga K "_filled")) = true),
  fun K => decide (PySem.W.nsIn K mainGlobals "_is_fitting_part" = some (some (.ref (He.ga K "_is_fitting_part")))),
  fun K => decide (PySem.W.keepIn K (.ref (He.ga K "_is_fitting_part")) = true),
  fun K => decide (PySem.W.nsIn K mainGlobals "things_paper" = some (some (.ref (He.ga K "things_paper")))),
  fun K => decide (PySem.W.keepIn K (.ref (He.ga K "things_paper")) = true),
  fun K => decide (PySem.W.nsIn K mainGlobals "_one_more" = some (some (.ref (He.ga K "_one_more")))),
  fun K => decide (PySem.W.keepIn K (.ref (He.ga K "_one_more")) = true)]
def ck5 : List (PySem.W.Frag → Bool) := [
  fun K => decide (PySem.W.nsIn K mainGlobals "total_paper" = some (some (.ref (He.ga K "total_paper")))),
  fun K => decide (PySem.W.keepIn K (.ref (He.ga K "total_paper")) = true),
  fun K => decide (PySem.W.nsIn K mainGlobals "is_things_paper" = some (some (.ref (He.ga K "is_things_paper")))),
  fun K => decide (PySem.W.keepIn K (.ref (He.ga K "is_things_paper")) = true),
  fun K => decide (PySem.W.nsIn K mainGlobals "is_total_paper" = some (some (.ref (He.ga K "is_total_paper")))),
  fun K => decide (PySem.W.keepIn K (.ref (He.ga K "is_total_paper")) = true),
  fun K => decide (PySem.W.nsIn K mainGlobals "_is_part_paper" = some (some (.ref (He.ga K "_is_part_paper")))),
  fun K => decide (PySem.W.keepIn K (.ref (He.ga K "_is_part_paper")) = true),
  fun K => decide (PySem.W.nsIn K mainGlobals "_law_dice" = some (some (.ref (He.ga K "_law_dice")))),
  fun K => decide (PySem.W.keepIn K (.ref (He.ga K "_law_dice")) = true),
  fun K => decide (PySem.W.nsIn K mainGlobals "_law_roll" = some (some (.ref (He.ga K "_law_roll")))),
  fun K => decide (PySem.W.keepIn K (.ref (He.ga K "_law_roll")) = true)]
def ck6 : List (PySem.W.Frag → Bool) := [
  fun K => decide (PySem.W.nsIn K mainGlobals "_law_pick" = some (some (.ref (He.ga K "_law_pick")))),
  fun K => decide (PySem.W.keepIn K (.ref (He.ga K "_law_pick")) = true),
  fun K => decide (PySem.W.nsIn K mainGlobals "_law_mixed" = some (some (.ref (He.ga K "_law_mixed")))),
  fun K => decide (PySem.W.keepIn K (.ref (He.ga K "_law_mixed")) = true),
  fun K => decide (PySem.W.nsIn K mainGlobals "_law_great" = some (some (.ref (He.ga K "_law_great")))),
  fun K => decide (PySem.W.keepIn K (.ref (He.ga K "_law_great")) = true),
  fun K => decide (PySem.W.nsIn K mainGlobals "_law_chain" = some (some (.ref (He.ga K "_law_chain")))),
  fun K => decide (PySem.W.keepIn K (.ref (He.ga K "_law_chain")) = true),
  fun K => decide (PySem.W.nsIn K mainGlobals "_law_long_chain" = some (some (.ref (He.ga K "_law_long_chain")))),
  fun K => decide (PySem.W.keepIn K (.ref (He.ga K "_law_long_chain")) = true),
  fun K => decide (PySem.W.nsIn K mainGlobals "_law_small_lot" = some (some (.ref (He.ga K "_law_small_lot")))),
  fun K => decide (PySem.W.keepIn K (.ref (He.ga K "_law_small_lot")) = true)]
def ck7 : List (PySem.W.Frag → Bool) := [
  fun K => decide (PySem.W.nsIn K mainGlobals "_law_small_store" = some (some (.ref (He.ga K "_law_small_store")))),
  fun K => decide (PySem.W.keepIn K (.ref (He.ga K "_law_small_store")) = true),
  fun K => decide (PySem.W.nsIn K mainGlobals "_law_great_lot" = some (some (.ref (He.ga K "_law_great_lot")))),
  fun K => decide (PySem.W.keepIn K (.ref (He.ga K "_law_great_lot")) = true),
  fun K => decide (PySem.W.nsIn K mainGlobals "_law_great_store" = some (some (.ref (He.ga K "_law_great_store")))),
  fun K => decide (PySem.W.keepIn K (.ref (He.ga K "_law_great_store")) = true),
  fun K => decide (PySem.W.nsIn K mainGlobals "_law_merged" = some (some (.ref (He.ga K "_law_merged")))),
  fun K => decide (PySem.W.keepIn K (.ref (He.ga K "_law_merged")) = true),
  fun K => decide (PySem.W.nsIn K mainGlobals "_law_made_lot" = some (some (.ref (He.ga K "_law_made_lot")))),
  fun K => decide (PySem.W.keepIn K (.ref (He.ga K "_law_made_lot")) = true),
  fun K => decide (PySem.W.nsIn K mainGlobals "_law_made_store" = some (some (.ref (He.ga K "_law_made_store")))),
  fun K => decide (PySem.W.keepIn K (.ref (He.ga K "_law_made_store")) = true)]
def ck8 : List (PySem.W.Frag → Bool) := [
  fun K => decide (PySem.W.nsIn K mainGlobals "_law_total" = some (some (.ref (He.ga K "_law_total")))),
  fun K => decide (PySem.W.keepIn K (.ref (He.ga K "_law_total")) = true),
  fun K => decide (PySem.W.nsIn K mainGlobals "_law_units" = some (some (.ref (He.ga K "_law_units")))),
  fun K => decide (PySem.W.keepIn K (.ref (He.ga K "_law_units")) = true),
  fun K => decide (PySem.W.nsIn K mainGlobals "_law_space" = some (some (.ref (He.ga K "_law_space")))),
  fun K => decide (PySem.W.keepIn K (.ref (He.ga K "_law_space")) = true),
  fun K => decide (PySem.W.nsIn K mainGlobals "_law_bars" = some (some (.ref (He.ga K "_law_bars")))),
  fun K => decide (PySem.W.keepIn K (.ref (He.ga K "_law_bars")) = true),
  fun K => decide (PySem.W.nsIn K mainGlobals "_law_number" = some (some (.ref (He.ga K "_law_number")))),
  fun K => decide (PySem.W.keepIn K (.ref (He.ga K "_law_number")) = true),
  fun K => decide (PySem.W.nsIn K mainGlobals "_law_is_part" = some (some (.ref (He.ga K "_law_is_part")))),
  fun K => decide (PySem.W.keepIn K (.ref (He.ga K "_law_is_part")) = true)]
def ck9 : List (PySem.W.Frag → Bool) := [
  fun K => decide (PySem.W.nsIn K mainGlobals "_law_smaller_total" = some (some (.ref (He.ga K "_law_smaller_total")))),
  fun K => decide (PySem.W.keepIn K (.ref (He.ga K "_law_smaller_total")) = true),
  fun K => decide (PySem.W.nsIn K mainGlobals "_law_smallest" = some (some (.ref (He.ga K "_law_smallest")))),
  fun K => decide (PySem.W.keepIn K (.ref (He.ga K "_law_smallest")) = true),
  fun K => decide (PySem.W.nsIn K mainGlobals "_law_is_shown" = some (some (.ref (He.ga K "_law_is_shown")))),
  fun K => decide (PySem.W.keepIn K (.ref (He.ga K "_law_is_shown")) = true),
  fun K => decide (PySem.W.nsIn K mainGlobals "_law_right" = some (some (.ref (He.ga K "_law_right")))),
  fun K => decide (PySem.W.keepIn K (.ref (He.ga K "_law_right")) = true),
  fun K => decide (PySem.W.nsIn K mainGlobals "law" = some (some (.ref (He.ga K "law")))),
  fun K => decide (PySem.W.keepIn K (.ref (He.ga K "law")) = true),
  fun K => decide (PySem.W.nsIn K mainGlobals "abs" = some none),
  fun K => decide (PySem.W.nsIn K mainGlobals "all" = some none)]
def ck10 : List (PySem.W.Frag → Bool) := [
  fun K => decide (PySem.W.nsIn K mainGlobals "any" = some none),
  fun K => decide (PySem.W.nsIn K mainGlobals "bool" = some none),
  fun K => decide (PySem.W.nsIn K mainGlobals "dict" = some none),
  fun K => decide (PySem.W.nsIn K mainGlobals "int" = some none),
  fun K => decide (PySem.W.nsIn K mainGlobals "isinstance" = some none),
  fun K => decide (PySem.W.nsIn K mainGlobals "len" = some none),
  fun K => decide (PySem.W.nsIn K mainGlobals "list" = some none),
  fun K => decide (PySem.W.nsIn K mainGlobals "max" = some none),
  fun K => decide (PySem.W.nsIn K mainGlobals "min" = some none),
  fun K => decide (PySem.W.nsIn K mainGlobals "range" = some none),
  fun K => decide (PySem.W.nsIn K mainGlobals "set" = some none),
  fun K => decide (PySem.W.nsIn K mainGlobals "sorted" = some none)]
def ck11 : List (PySem.W.Frag → Bool) := [
  fun K => decide (PySem.W.nsIn K mainGlobals "str" = some none),
  fun K => decide (PySem.W.nsIn K mainGlobals "sum" = some none),
  fun K => decide (PySem.W.nsIn K mainGlobals "tuple" = some none),
  fun K => decide (PySem.W.nsIn K mainGlobals "zip" = some none),
  fun K => intEq 200 (PySem.W.nsIn K mainGlobals "MAX_FIGURES"),
  fun K => intEq 40 (PySem.W.nsIn K mainGlobals "MAX_RUNS"),
  fun K => intEq 12 (PySem.W.nsIn K mainGlobals "MAX_SIZES"),
  fun K => decide (PySem.W.specialIn K (.builtin "object.__class__") "__get__" = some (some (.builtin "getset_descriptor.__get__"))),
  fun K => decide (PySem.W.takesIn K (.builtin "object.__class__") = some true),
  fun K => decide (PySem.W.nsIn K mainGlobals "Lot" = some (some (.ref (He.ga K "Lot")))),
  fun K => decide (PySem.W.plainGet K (He.ga K "Lot") Str.empty = true),
  fun K => decide (PySem.W.hasDictIn K (He.ga K "Lot") = true)]
def ck12 : List (PySem.W.Frag → Bool) := [
  fun K => decide (PySem.W.plainOver K (He.ga K "Lot") = true),
  fun K => decide (PySem.W.findIn K (.ref (He.ga K "Lot")) "__setattr__" = some (some (.builtin "object.__setattr__"))),
  fun K => decide (PySem.W.makesIn K (He.ga K "Lot") = true),
  fun K => decide (PySem.W.keepIn K (.ref (He.ga K "Lot")) = true),
  fun K => decide (PySem.W.findIn K (.ref (He.ga K "Lot")) "__class__" = some (some (.builtin "object.__class__"))),
  fun K => decide (PySem.W.findIn K (.ref (He.ga K "Lot")) "_sizes" = some none),
  fun K => decide (PySem.W.findIn K (.ref (He.ga K "Lot")) "_pairs" = some none),
  fun K => decide (PySem.W.findIn K (.ref (He.ga K "Lot")) "_counts" = some none),
  fun K => decide (PySem.W.selfFirst K (He.ga K "Lot") = true),
  fun K => decide (PySem.W.subIn K (.ref (He.ga K "Lot")) (.type "int") = some false),
  fun K => decide (PySem.W.subIn K (.type "dict") (.ref (He.ga K "Lot")) = some false),
  fun K => decide (PySem.W.subIn K (.type "int") (.ref (He.ga K "Lot")) = some false)]
def ck13 : List (PySem.W.Frag → Bool) := [
  fun K => decide (PySem.W.subIn K (.type "NoneType") (.ref (He.ga K "Lot")) = some false),
  fun K => decide (PySem.W.isClsIn K (He.ga K "Lot") = true),
  fun K => decide (PySem.W.typeIn K (.ref (He.ga K "Lot")) = some (.type "type")),
  fun K => decide (PySem.W.findIn K (.ref (He.ga K "Lot")) "__init__" = some (some (.ref (mP K "Lot" "__init__")))),
  fun K => decide (PySem.W.isFn K (.ref (mP K "Lot" "__init__")) = true),
  fun K => decide (PySem.W.keepIn K (.ref (mP K "Lot" "__init__")) = true),
  fun K => decide (PySem.W.findIn K (.ref (He.ga K "Lot")) "counts" = some (some (.ref (mP K "Lot" "counts")))),
  fun K => decide (PySem.W.specialIn K (.ref (mP K "Lot" "counts")) "__get__" = some (some (.builtin "property.__get__"))),
  fun K => decide (PySem.W.takesIn K (.ref (mP K "Lot" "counts")) = some true),
  fun K => recB (PySem.W.recIn K (mP K "Lot" "counts") "property"),
  fun K => decide (PySem.W.keepIn K (.ref (gP K "Lot" "counts")) = true),
  fun K => decide (PySem.W.findIn K (.ref (He.ga K "Lot")) "sizes" = some (some (.ref (mP K "Lot" "sizes"))))]
def ck14 : List (PySem.W.Frag → Bool) := [
  fun K => decide (PySem.W.specialIn K (.ref (mP K "Lot" "sizes")) "__get__" = some (some (.builtin "property.__get__"))),
  fun K => decide (PySem.W.takesIn K (.ref (mP K "Lot" "sizes")) = some true),
  fun K => recB (PySem.W.recIn K (mP K "Lot" "sizes") "property"),
  fun K => decide (PySem.W.keepIn K (.ref (gP K "Lot" "sizes")) = true),
  fun K => decide (PySem.W.findIn K (.ref (He.ga K "Lot")) "number" = some (some (.ref (mP K "Lot" "number")))),
  fun K => decide (PySem.W.specialIn K (.ref (mP K "Lot" "number")) "__get__" = some (some (.builtin "property.__get__"))),
  fun K => decide (PySem.W.takesIn K (.ref (mP K "Lot" "number")) = some true),
  fun K => recB (PySem.W.recIn K (mP K "Lot" "number") "property"),
  fun K => decide (PySem.W.keepIn K (.ref (gP K "Lot" "number")) = true),
  fun K => decide (PySem.W.findIn K (.ref (He.ga K "Lot")) "total" = some (some (.ref (mP K "Lot" "total")))),
  fun K => decide (PySem.W.specialIn K (.ref (mP K "Lot" "total")) "__get__" = some (some (.builtin "property.__get__"))),
  fun K => decide (PySem.W.takesIn K (.ref (mP K "Lot" "total")) = some true)]
def ck15 : List (PySem.W.Frag → Bool) := [
  fun K => recB (PySem.W.recIn K (mP K "Lot" "total") "property"),
  fun K => decide (PySem.W.keepIn K (.ref (gP K "Lot" "total")) = true),
  fun K => decide (PySem.W.findIn K (.ref (He.ga K "Lot")) "units" = some (some (.ref (mP K "Lot" "units")))),
  fun K => decide (PySem.W.isFn K (.ref (mP K "Lot" "units")) = true),
  fun K => decide (PySem.W.fnIn K (mP K "Lot" "units") = true),
  fun K => decide (PySem.W.keepIn K (.ref (mP K "Lot" "units")) = true),
  fun K => decide (PySem.W.findIn K (.ref (He.ga K "Lot")) "is_part_of" = some (some (.ref (mP K "Lot" "is_part_of")))),
  fun K => decide (PySem.W.isFn K (.ref (mP K "Lot" "is_part_of")) = true),
  fun K => decide (PySem.W.fnIn K (mP K "Lot" "is_part_of") = true),
  fun K => decide (PySem.W.keepIn K (.ref (mP K "Lot" "is_part_of")) = true),
  fun K => decide (PySem.W.findIn K (.ref (He.ga K "Lot")) "with_count" = some (some (.ref (mP K "Lot" "with_count")))),
  fun K => decide (PySem.W.isFn K (.ref (mP K "Lot" "with_count")) = true)]
def ck16 : List (PySem.W.Frag → Bool) := [
  fun K => decide (PySem.W.fnIn K (mP K "Lot" "with_count") = true),
  fun K => decide (PySem.W.keepIn K (.ref (mP K "Lot" "with_count")) = true),
  fun K => decide (PySem.W.findIn K (.ref (He.ga K "Lot")) "__add__" = some (some (.ref (mP K "Lot" "__add__")))),
  fun K => decide (PySem.W.isFn K (.ref (mP K "Lot" "__add__")) = true),
  fun K => decide (PySem.W.fnIn K (mP K "Lot" "__add__") = true),
  fun K => decide (PySem.W.keepIn K (.ref (mP K "Lot" "__add__")) = true),
  fun K => decide (PySem.W.findIn K (.ref (He.ga K "Lot")) "__getitem__" = some (some (.ref (mP K "Lot" "__getitem__")))),
  fun K => decide (PySem.W.isFn K (.ref (mP K "Lot" "__getitem__")) = true),
  fun K => decide (PySem.W.fnIn K (mP K "Lot" "__getitem__") = true),
  fun K => decide (PySem.W.keepIn K (.ref (mP K "Lot" "__getitem__")) = true),
  fun K => decide (PySem.W.findIn K (.ref (He.ga K "Lot")) "__contains__" = some (some (.ref (mP K "Lot" "__contains__")))),
  fun K => decide (PySem.W.isFn K (.ref (mP K "Lot" "__contains__")) = true)]
def ck17 : List (PySem.W.Frag → Bool) := [
  fun K => decide (PySem.W.fnIn K (mP K "Lot" "__contains__") = true),
  fun K => decide (PySem.W.keepIn K (.ref (mP K "Lot" "__contains__")) = true),
  fun K => decide (PySem.W.findIn K (.ref (He.ga K "Lot")) "__len__" = some (some (.ref (mP K "Lot" "__len__")))),
  fun K => decide (PySem.W.isFn K (.ref (mP K "Lot" "__len__")) = true),
  fun K => decide (PySem.W.fnIn K (mP K "Lot" "__len__") = true),
  fun K => decide (PySem.W.keepIn K (.ref (mP K "Lot" "__len__")) = true),
  fun K => decide (PySem.W.findIn K (.ref (He.ga K "Lot")) "__eq__" = some (some (.ref (mP K "Lot" "__eq__")))),
  fun K => decide (PySem.W.isFn K (.ref (mP K "Lot" "__eq__")) = true),
  fun K => decide (PySem.W.fnIn K (mP K "Lot" "__eq__") = true),
  fun K => decide (PySem.W.keepIn K (.ref (mP K "Lot" "__eq__")) = true),
  fun K => decide (PySem.W.nsIn K mainGlobals "Store" = some (some (.ref (He.ga K "Store")))),
  fun K => decide (PySem.W.plainGet K (He.ga K "Store") Str.empty = true)]
def ck18 : List (PySem.W.Frag → Bool) := [
  fun K => decide (PySem.W.hasDictIn K (He.ga K "Store") = true),
  fun K => decide (PySem.W.plainOver K (He.ga K "Store") = true),
  fun K => decide (PySem.W.findIn K (.ref (He.ga K "Store")) "__setattr__" = some (some (.builtin "object.__setattr__"))),
  fun K => decide (PySem.W.makesIn K (He.ga K "Store") = true),
  fun K => decide (PySem.W.keepIn K (.ref (He.ga K "Store")) = true),
  fun K => decide (PySem.W.findIn K (.ref (He.ga K "Store")) "__class__" = some (some (.builtin "object.__class__"))),
  fun K => decide (PySem.W.findIn K (.ref (He.ga K "Store")) "_runs" = some none),
  fun K => decide (PySem.W.findIn K (.ref (He.ga K "Store")) "__init__" = some (some (.ref (mP K "Store" "__init__")))),
  fun K => decide (PySem.W.isFn K (.ref (mP K "Store" "__init__")) = true),
  fun K => decide (PySem.W.keepIn K (.ref (mP K "Store" "__init__")) = true),
  fun K => decide (PySem.W.findIn K (.ref (He.ga K "Store")) "units" = some (some (.ref (mP K "Store" "units")))),
  fun K => decide (PySem.W.isFn K (.ref (mP K "Store" "units")) = true)]
def ck19 : List (PySem.W.Frag → Bool) := [
  fun K => decide (PySem.W.fnIn K (mP K "Store" "units") = true),
  fun K => decide (PySem.W.keepIn K (.ref (mP K "Store" "units")) = true)]
def chks : Chks := ck0 :: ck1 :: ck2 :: ck3 :: ck4 :: ck5 :: ck6 :: ck7 :: ck8 :: ck9 :: ck10 :: ck11 :: ck12 :: ck13 :: ck14 :: ck15 :: ck16 :: ck17 :: ck18 :: ck19 :: []
def tfl : List He.Defn := []
def asl : List Addr := List.range 1395
def nms0 : List Str := ["_wall", "MAX_FIGURES", "is_integer", "is_count", "is_size", "is_run", "number_of_all", "units_of", "joined_runs", "part_of_runs", "PackError", "InvalidLot", "InvalidStore", "InvalidOperation", "InvalidNumber", "TooMany"]
def nms1 : List Str := ["NoChain", "check_size", "check_count", "check_between", "first_gap", "MAX_SIZES", "check_lot", "_are_counts", "Lot", "MAX_RUNS", "check_store", "_check_many", "Store", "check_together", "_check", "check_levels"]
def nms2 : List Str := ["levels_of", "fits", "barring_sizes", "spare", "check_most", "most_things", "most_total", "keep_things", "keep_total", "_filled", "_is_fitting_part", "things_paper", "_one_more", "total_paper", "is_things_paper", "is_total_paper"]
def nms3 : List Str := ["_is_part_paper", "_law_dice", "_law_roll", "_law_pick", "_law_mixed", "_law_great", "_law_chain", "_law_long_chain", "_law_small_lot", "_law_small_store", "_law_great_lot", "_law_great_store", "_law_merged", "_law_made_lot", "_law_made_store", "_law_total"]
def nms4 : List Str := ["_law_units", "_law_space", "_law_bars", "_law_number", "_law_is_part", "_law_smaller_total", "_law_smallest", "_law_is_shown", "_law_right"]
def nms : List Str := nms0 ++ nms1 ++ nms2 ++ nms3 ++ nms4
abbrev R : PySem.W.OpenRow := PySem.W.OpenLaw.row PySem.Challenge.rw_chainpacks_k57_whole_papers_of_parts
abbrev hk : PySem.W.Hook := hookC asl chks fnl tfl
def ob (s : PySem.W.SharedT) : AlC := obsC asl chks fnl tfl (HandSHeadRun.getT s)
theorem run (w : World) : HandSHeadRun.RunEq R (PySem.W.view R.prog [84]) hk ob 18135 nms w := by
  intro os
  kernel_rfl
theorem all_mk {P : Program} {w : World} {K : PySem.W.Frag} {h : Heap} {mg : Str → Option Value} {fa : Addr} (X : K.In h) (G : h.Ns mainGlobals mg) (hfa : mg "law" = some (.ref fa)) (S : SaysC chks fnl tfl h K)
    : ∃ fd : FuncData, (∀ (s : Shared) (v : Value), BindsTo s fd ⟨[v], []⟩ [("script", v)]) ∧ ∀ base : Heap, K.In base → base.Ns mainGlobals mg → NoSm base → FnG P w K mg base CX0 14 fa fd ["script"] (spLaw K) := by
  have a0 : PySem.W.nsIn K mainGlobals "is_integer" = some (some (.ref (He.ga K "is_integer"))) := of_decide_eq_true (S.at_ 0 0 rfl rfl)
  have k0 : PySem.W.keepIn K (.ref (He.ga K "is_integer")) = true := of_decide_eq_true (S.at_ 0 1 rfl rfl)
  obtain ⟨oc0, od0, kV0, dc0, pm0, an0, cd0, ct0, sl0, l0, c0⟩ := S.f0 0 (d := fe0) rfl rfl
  have a1 : PySem.W.nsIn K mainGlobals "is_count" = some (some (.ref (He.ga K "is_count"))) := of_decide_eq_true (S.at_ 0 2 rfl rfl)
  have k1 : PySem.W.keepIn K (.ref (He.ga K "is_count")) = true := of_decide_eq_true (S.at_ 0 3 rfl rfl)
  obtain ⟨oc1, od1, kV1, dc1, pm1, an1, cd1, ct1, sl1, l1, c1⟩ := S.f0 1 (d := fe1) rfl rfl
  have a2 : PySem.W.nsIn K mainGlobals "is_size" = some (some (.ref (He.ga K "is_size"))) := of_decide_eq_true (S.at_ 0 4 rfl rfl)
  have k2 : PySem.W.keepIn K (.ref (He.ga K "is_size")) = true := of_decide_eq_true (S.at_ 0 5 rfl rfl)
  obtain ⟨oc2, od2, kV2, dc2, pm2, an2, cd2, ct2, sl2, l2, c2⟩ := S.f0 2 (d := fe2) rfl rfl
  have a3 : PySem.W.nsIn K mainGlobals "is_run" = some (some (.ref (He.ga K "is_run"))) := of_decide_eq_true (S.at_ 0 6 rfl rfl)
  have k3 : PySem.W.keepIn K (.ref (He.ga K "is_run")) = true := of_decide_eq_true (S.at_ 0 7 rfl rfl)
  obtain ⟨oc3, od3, kV3, dc3, pm3, an3, cd3, ct3, sl3, l3, c3⟩ := S.f0 3 (d := fe3) rfl rfl
  have a4 : PySem.W.nsIn K mainGlobals "number_of_all" = some (some (.ref (He.ga K "number_of_all"))) := of_decide_eq_true (S.at_ 0 8 rfl rfl)
  have k4 : PySem.W.keepIn K (.ref (He.ga K "number_of_all")) = true := of_decide_eq_true (S.at_ 0 9 rfl rfl)
  obtain ⟨oc4, od4, kV4, dc4, pm4, an4, cd4, ct4, sl4, l4, c4⟩ := S.f0 4 (d := fe4) rfl rfl
  have a5 : PySem.W.nsIn K mainGlobals "units_of" = some (some (.ref (He.ga K "units_of"))) := of_decide_eq_true (S.at_ 0 10 rfl rfl)
  have k5 : PySem.W.keepIn K (.ref (He.ga K "units_of")) = true := of_decide_eq_true (S.at_ 0 11 rfl rfl)
  obtain ⟨oc5, od5, kV5, dc5, pm5, an5, cd5, ct5, sl5, l5, c5⟩ := S.f0 5 (d := fe5) rfl rfl
  have a6 : PySem.W.nsIn K mainGlobals "joined_runs" = some (some (.ref (He.ga K "joined_runs"))) := of_decide_eq_true (S.at_ 1 0 rfl rfl)
  have k6 : PySem.W.keepIn K (.ref (He.ga K "joined_runs")) = true := of_decide_eq_true (S.at_ 1 1 rfl rfl)
  obtain ⟨oc6, od6, kV6, dc6, pm6, an6, cd6, ct6, sl6, l6, c6⟩ := S.f0 6 (d := fe6) rfl rfl
  have a7 : PySem.W.nsIn K mainGlobals "part_of_runs" = some (some (.ref (He.ga K "part_of_runs"))) := of_decide_eq_true (S.at_ 1 2 rfl rfl)
  have k7 : PySem.W.keepIn K (.ref (He.ga K "part_of_runs")) = true := of_decide_eq_true (S.at_ 1 3 rfl rfl)
  obtain ⟨oc7, od7, kV7, dc7, pm7, an7, cd7, ct7, sl7, l7, c7⟩ := S.f0 7 (d := fe7) rfl rfl
  have a8 : PySem.W.nsIn K mainGlobals "check_size" = some (some (.ref (He.ga K "check_size"))) := of_decide_eq_true (S.at_ 1 4 rfl rfl)
  have k8 : PySem.W.keepIn K (.ref (He.ga K "check_size")) = true := of_decide_eq_true (S.at_ 1 5 rfl rfl)
  obtain ⟨oc8, od8, kV8, dc8, pm8, an8, cd8, ct8, sl8, l8, c8⟩ := S.f0 8 (d := fe8) rfl rfl
  have a9 : PySem.W.nsIn K mainGlobals "check_count" = some (some (.ref (He.ga K "check_count"))) := of_decide_eq_true (S.at_ 1 6 rfl rfl)
  have k9 : PySem.W.keepIn K (.ref (He.ga K "check_count")) = true := of_decide_eq_true (S.at_ 1 7 rfl rfl)
  obtain ⟨oc9, od9, kV9, dc9, pm9, an9, cd9, ct9, sl9, l9, c9⟩ := S.f0 9 (d := fe9) rfl rfl
  have a10 : PySem.W.nsIn K mainGlobals "check_between" = some (some (.ref (He.ga K "check_between"))) := of_decide_eq_true (S.at_ 1 8 rfl rfl)
  have k10 : PySem.W.keepIn K (.ref (He.ga K "check_between")) = true := of_decide_eq_true (S.at_ 1 9 rfl rfl)
  obtain ⟨oc10, od10, kV10, dc10, pm10, an10, cd10, ct10, sl10, l10, c10⟩ := S.f0 10 (d := fe10) rfl rfl
  have a11 : PySem.W.nsIn K mainGlobals "first_gap" = some (some (.ref (He.ga K "first_gap"))) := of_decide_eq_true (S.at_ 1 10 rfl rfl)
  have k11 : PySem.W.keepIn K (.ref (He.ga K "first_gap")) = true := of_decide_eq_true (S.at_ 1 11 rfl rfl)
  obtain ⟨oc11, od11, kV11, dc11, pm11, an11, cd11, ct11, sl11, l11, c11⟩ := S.f0 11 (d := fe11) rfl rfl
  have a12 : PySem.W.nsIn K mainGlobals "check_lot" = some (some (.ref (He.ga K "check_lot"))) := of_decide_eq_true (S.at_ 2 0 rfl rfl)
  have k12 : PySem.W.keepIn K (.ref (He.ga K "check_lot")) = true := of_decide_eq_true (S.at_ 2 1 rfl rfl)
  obtain ⟨oc12, od12, kV12, dc12, pm12, an12, cd12, ct12, sl12, l12, c12⟩ := S.f0 12 (d := fe12) rfl rfl
  have a13 : PySem.W.nsIn K mainGlobals "_are_counts" = some (some (.ref (He.ga K "_are_counts"))) := of_decide_eq_true (S.at_ 2 2 rfl rfl)
  have k13 : PySem.W.keepIn K (.ref (He.ga K "_are_counts")) = true := of_decide_eq_true (S.at_ 2 3 rfl rfl)
  obtain ⟨oc13, od13, kV13, dc13, pm13, an13, cd13, ct13, sl13, l13, c13⟩ := S.f0 13 (d := fe13) rfl rfl
  have a14 : PySem.W.nsIn K mainGlobals "check_store" = some (some (.ref (He.ga K "check_store"))) := of_decide_eq_true (S.at_ 2 4 rfl rfl)
  have k14 : PySem.W.keepIn K (.ref (He.ga K "check_store")) = true := of_decide_eq_true (S.at_ 2 5 rfl rfl)
  obtain ⟨oc14, od14, kV14, dc14, pm14, an14, cd14, ct14, sl14, l14, c14⟩ := S.f0 14 (d := fe14) rfl rfl
  have a15 : PySem.W.nsIn K mainGlobals "check_together" = some (some (.ref (He.ga K "check_together"))) := of_decide_eq_true (S.at_ 2 6 rfl rfl)
  have k15 : PySem.W.keepIn K (.ref (He.ga K "check_together")) = true := of_decide_eq_true (S.at_ 2 7 rfl rfl)
  obtain ⟨oc15, od15, kV15, dc15, pm15, an15, cd15, ct15, sl15, l15, c15⟩ := S.f0 15 (d := fe15) rfl rfl
  have a16 : PySem.W.nsIn K mainGlobals "check_levels" = some (some (.ref (He.ga K "check_levels"))) := of_decide_eq_true (S.at_ 2 8 rfl rfl)
  have k16 : PySem.W.keepIn K (.ref (He.ga K "check_levels")) = true := of_decide_eq_true (S.at_ 2 9 rfl rfl)
  obtain ⟨oc16, od16, kV16, dc16, pm16, an16, cd16, ct16, sl16, l16, c16⟩ := S.f0 16 (d := fe16) rfl rfl
  have a17 : PySem.W.nsIn K mainGlobals "levels_of" = some (some (.ref (He.ga K "levels_of"))) := of_decide_eq_true (S.at_ 2 10 rfl rfl)
  have k17 : PySem.W.keepIn K (.ref (He.ga K "levels_of")) = true := of_decide_eq_true (S.at_ 2 11 rfl rfl)
  obtain ⟨oc17, od17, kV17, dc17, pm17, an17, cd17, ct17, sl17, l17, c17⟩ := S.f0 17 (d := fe17) rfl rfl
  have a18 : PySem.W.nsIn K mainGlobals "fits" = some (some (.ref (He.ga K "fits"))) := of_decide_eq_true (S.at_ 3 0 rfl rfl)
  have k18 : PySem.W.keepIn K (.ref (He.ga K "fits")) = true := of_decide_eq_true (S.at_ 3 1 rfl rfl)
  obtain ⟨oc18, od18, kV18, dc18, pm18, an18, cd18, ct18, sl18, l18, c18⟩ := S.f0 18 (d := fe18) rfl rfl
  have a19 : PySem.W.nsIn K mainGlobals "barring_sizes" = some (some (.ref (He.ga K "barring_sizes"))) := of_decide_eq_true (S.at_ 3 2 rfl rfl)
  have k19 : PySem.W.keepIn K (.ref (He.ga K "barring_sizes")) = true := of_decide_eq_true (S.at_ 3 3 rfl rfl)
  obtain ⟨oc19, od19, kV19, dc19, pm19, an19, cd19, ct19, sl19, l19, c19⟩ := S.f0 19 (d := fe19) rfl rfl
  have a20 : PySem.W.nsIn K mainGlobals "spare" = some (some (.ref (He.ga K "spare"))) := of_decide_eq_true (S.at_ 3 4 rfl rfl)
  have k20 : PySem.W.keepIn K (.ref (He.ga K "spare")) = true := of_decide_eq_true (S.at_ 3 5 rfl rfl)
  obtain ⟨oc20, od20, kV20, dc20, pm20, an20, cd20, ct20, sl20, l20, c20⟩ := S.f0 20 (d := fe20) rfl rfl
  have a21 : PySem.W.nsIn K mainGlobals "check_most" = some (some (.ref (He.ga K "check_most"))) := of_decide_eq_true (S.at_ 3 6 rfl rfl)
  have k21 : PySem.W.keepIn K (.ref (He.ga K "check_most")) = true := of_decide_eq_true (S.at_ 3 7 rfl rfl)
  obtain ⟨oc21, od21, kV21, dc21, pm21, an21, cd21, ct21, sl21, l21, c21⟩ := S.f0 21 (d := fe21) rfl rfl
  have a22 : PySem.W.nsIn K mainGlobals "most_things" = some (some (.ref (He.ga K "most_things"))) := of_decide_eq_true (S.at_ 3 8 rfl rfl)
  have k22 : PySem.W.keepIn K (.ref (He.ga K "most_things")) = true := of_decide_eq_true (S.at_ 3 9 rfl rfl)
  obtain ⟨oc22, od22, kV22, dc22, pm22, an22, cd22, ct22, sl22, l22, c22⟩ := S.f0 22 (d := fe22) rfl rfl
  have a23 : PySem.W.nsIn K mainGlobals "most_total" = some (some (.ref (He.ga K "most_total"))) := of_decide_eq_true (S.at_ 3 10 rfl rfl)
  have k23 : PySem.W.keepIn K (.ref (He.ga K "most_total")) = true := of_decide_eq_true (S.at_ 3 11 rfl rfl)
  obtain ⟨oc23, od23, kV23, dc23, pm23, an23, cd23, ct23, sl23, l23, c23⟩ := S.f0 23 (d := fe23) rfl rfl
  have a24 : PySem.W.nsIn K mainGlobals "keep_things" = some (some (.ref (He.ga K "keep_things"))) := of_decide_eq_true (S.at_ 4 0 rfl rfl)
  have k24 : PySem.W.keepIn K (.ref (He.ga K "keep_things")) = true := of_decide_eq_true (S.at_ 4 1 rfl rfl)
  obtain ⟨oc24, od24, kV24, dc24, pm24, an24, cd24, ct24, sl24, l24, c24⟩ := S.f0 24 (d := fe24) rfl rfl
  have a25 : PySem.W.nsIn K mainGlobals "keep_total" = some (some (.ref (He.ga K "keep_total"))) := of_decide_eq_true (S.at_ 4 2 rfl rfl)
  have k25 : PySem.W.keepIn K (.ref (He.ga K "keep_total")) = true := of_decide_eq_true (S.at_ 4 3 rfl rfl)
  obtain ⟨oc25, od25, kV25, dc25, pm25, an25, cd25, ct25, sl25, l25, c25⟩ := S.f0 25 (d := fe25) rfl rfl
  have a26 : PySem.W.nsIn K mainGlobals "_filled" = some (some (.ref (He.ga K "_filled"))) := of_decide_eq_true (S.at_ 4 4 rfl rfl)
  have k26 : PySem.W.keepIn K (.ref (He.ga K "_filled")) = true := of_decide_eq_true (S.at_ 4 5 rfl rfl)
  obtain ⟨oc26, od26, kV26, dc26, pm26, an26, cd26, ct26, sl26, l26, c26⟩ := S.f0 26 (d := fe26) rfl rfl
  have a27 : PySem.W.nsIn K mainGlobals "_is_fitting_part" = some (some (.ref (He.ga K "_is_fitting_part"))) := of_decide_eq_true (S.at_ 4 6 rfl rfl)
  have k27 : PySem.W.keepIn K (.ref (He.ga K "_is_fitting_part")) = true := of_decide_eq_true (S.at_ 4 7 rfl rfl)
  obtain ⟨oc27, od27, kV27, dc27, pm27, an27, cd27, ct27, sl27, l27, c27⟩ := S.f0 27 (d := fe27) rfl rfl
  have a28 : PySem.W.nsIn K mainGlobals "things_paper" = some (some (.ref (He.ga K "things_paper"))) := of_decide_eq_true (S.at_ 4 8 rfl rfl)
  have k28 : PySem.W.keepIn K (.ref (He.ga K "things_paper")) = true := of_decide_eq_true (S.at_ 4 9 rfl rfl)
  obtain ⟨oc28, od28, kV28, dc28, pm28, an28, cd28, ct28, sl28, l28, c28⟩ := S.f0 28 (d := fe28) rfl rfl
  have a29 : PySem.W.nsIn K mainGlobals "_one_more" = some (some (.ref (He.ga K "_one_more"))) := of_decide_eq_true (S.at_ 4 10 rfl rfl)
  have k29 : PySem.W.keepIn K (.ref (He.ga K "_one_more")) = true := of_decide_eq_true (S.at_ 4 11 rfl rfl)
  obtain ⟨oc29, od29, kV29, dc29, pm29, an29, cd29, ct29, sl29, l29, c29⟩ := S.f0 29 (d := fe29) rfl rfl
  have a30 : PySem.W.nsIn K mainGlobals "total_paper" = some (some (.ref (He.ga K "total_paper"))) := of_decide_eq_true (S.at_ 5 0 rfl rfl)
  have k30 : PySem.W.keepIn K (.ref (He.ga K "total_paper")) = true := of_decide_eq_true (S.at_ 5 1 rfl rfl)
  obtain ⟨oc30, od30, kV30, dc30, pm30, an30, cd30, ct30, sl30, l30, c30⟩ := S.f0 30 (d := fe30) rfl rfl
  have a31 : PySem.W.nsIn K mainGlobals "is_things_paper" = some (some (.ref (He.ga K "is_things_paper"))) := of_decide_eq_true (S.at_ 5 2 rfl rfl)
  have k31 : PySem.W.keepIn K (.ref (He.ga K "is_things_paper")) = true := of_decide_eq_true (S.at_ 5 3 rfl rfl)
  obtain ⟨oc31, od31, kV31, dc31, pm31, an31, cd31, ct31, sl31, l31, c31⟩ := S.f0 31 (d := fe31) rfl rfl
  have a32 : PySem.W.nsIn K mainGlobals "is_total_paper" = some (some (.ref (He.ga K "is_total_paper"))) := of_decide_eq_true (S.at_ 5 4 rfl rfl)
  have k32 : PySem.W.keepIn K (.ref (He.ga K "is_total_paper")) = true := of_decide_eq_true (S.at_ 5 5 rfl rfl)
  obtain ⟨oc32, od32, kV32, dc32, pm32, an32, cd32, ct32, sl32, l32, c32⟩ := S.f0 32 (d := fe32) rfl rfl
  have a33 : PySem.W.nsIn K mainGlobals "_is_part_paper" = some (some (.ref (He.ga K "_is_part_paper"))) := of_decide_eq_true (S.at_ 5 6 rfl rfl)
  have k33 : PySem.W.keepIn K (.ref (He.ga K "_is_part_paper")) = true := of_decide_eq_true (S.at_ 5 7 rfl rfl)
  obtain ⟨oc33, od33, kV33, dc33, pm33, an33, cd33, ct33, sl33, l33, c33⟩ := S.f0 33 (d := fe33) rfl rfl
  have a34 : PySem.W.nsIn K mainGlobals "_law_dice" = some (some (.ref (He.ga K "_law_dice"))) := of_decide_eq_true (S.at_ 5 8 rfl rfl)
  have k34 : PySem.W.keepIn K (.ref (He.ga K "_law_dice")) = true := of_decide_eq_true (S.at_ 5 9 rfl rfl)
  obtain ⟨oc34, od34, kV34, dc34, pm34, an34, cd34, ct34, sl34, l34, c34⟩ := S.f0 34 (d := fe34) rfl rfl
  have a35 : PySem.W.nsIn K mainGlobals "_law_roll" = some (some (.ref (He.ga K "_law_roll"))) := of_decide_eq_true (S.at_ 5 10 rfl rfl)
  have k35 : PySem.W.keepIn K (.ref (He.ga K "_law_roll")) = true := of_decide_eq_true (S.at_ 5 11 rfl rfl)
  obtain ⟨oc35, od35, kV35, dc35, pm35, an35, cd35, ct35, sl35, l35, c35⟩ := S.f0 35 (d := fe35) rfl rfl
  have a36 : PySem.W.nsIn K mainGlobals "_law_pick" = some (some (.ref (He.ga K "_law_pick"))) := of_decide_eq_true (S.at_ 6 0 rfl rfl)
  have k36 : PySem.W.keepIn K (.ref (He.ga K "_law_pick")) = true := of_decide_eq_true (S.at_ 6 1 rfl rfl)
  obtain ⟨oc36, od36, kV36, dc36, pm36, an36, cd36, ct36, sl36, l36, c36⟩ := S.f0 36 (d := fe36) rfl rfl
  have a37 : PySem.W.nsIn K mainGlobals "_law_mixed" = some (some (.ref (He.ga K "_law_mixed"))) := of_decide_eq_true (S.at_ 6 2 rfl rfl)
  have k37 : PySem.W.keepIn K (.ref (He.ga K "_law_mixed")) = true := of_decide_eq_true (S.at_ 6 3 rfl rfl)
  obtain ⟨oc37, od37, kV37, dc37, pm37, an37, cd37, ct37, sl37, l37, c37⟩ := S.f0 37 (d := fe37) rfl rfl
  have a38 : PySem.W.nsIn K mainGlobals "_law_great" = some (some (.ref (He.ga K "_law_great"))) := of_decide_eq_true (S.at_ 6 4 rfl rfl)
  have k38 : PySem.W.keepIn K (.ref (He.ga K "_law_great")) = true := of_decide_eq_true (S.at_ 6 5 rfl rfl)
  obtain ⟨oc38, od38, kV38, dc38, pm38, an38, cd38, ct38, sl38, l38, c38⟩ := S.f0 38 (d := fe38) rfl rfl
  have a39 : PySem.W.nsIn K mainGlobals "_law_chain" = some (some (.ref (He.ga K "_law_chain"))) := of_decide_eq_true (S.at_ 6 6 rfl rfl)
  have k39 : PySem.W.keepIn K (.ref (He.ga K "_law_chain")) = true := of_decide_eq_true (S.at_ 6 7 rfl rfl)
  obtain ⟨oc39, od39, kV39, dc39, pm39, an39, cd39, ct39, sl39, l39, c39⟩ := S.f0 39 (d := fe39) rfl rfl
  have a40 : PySem.W.nsIn K mainGlobals "_law_long_chain" = some (some (.ref (He.ga K "_law_long_chain"))) := of_decide_eq_true (S.at_ 6 8 rfl rfl)
  have k40 : PySem.W.keepIn K (.ref (He.ga K "_law_long_chain")) = true := of_decide_eq_true (S.at_ 6 9 rfl rfl)
  obtain ⟨oc40, od40, kV40, dc40, pm40, an40, cd40, ct40, sl40, l40, c40⟩ := S.f0 40 (d := fe40) rfl rfl
  have a41 : PySem.W.nsIn K mainGlobals "_law_small_lot" = some (some (.ref (He.ga K "_law_small_lot"))) := of_decide_eq_true (S.at_ 6 10 rfl rfl)
  have k41 : PySem.W.keepIn K (.ref (He.ga K "_law_small_lot")) = true := of_decide_eq_true (S.at_ 6 11 rfl rfl)
  obtain ⟨oc41, od41, kV41, dc41, pm41, an41, cd41, ct41, sl41, l41, c41⟩ := S.f0 41 (d := fe41) rfl rfl
  have a42 : PySem.W.nsIn K mainGlobals "_law_small_store" = some (some (.ref (He.ga K "_law_small_store"))) := of_decide_eq_true (S.at_ 7 0 rfl rfl)
  have k42 : PySem.W.keepIn K (.ref (He.ga K "_law_small_store")) = true := of_decide_eq_true (S.at_ 7 1 rfl rfl)
  obtain ⟨oc42, od42, kV42, dc42, pm42, an42, cd42, ct42, sl42, l42, c42⟩ := S.f0 42 (d := fe42) rfl rfl
  have a43 : PySem.W.nsIn K mainGlobals "_law_great_lot" = some (some (.ref (He.ga K "_law_great_lot"))) := of_decide_eq_true (S.at_ 7 2 rfl rfl)
  have k43 : PySem.W.keepIn K (.ref (He.ga K "_law_great_lot")) = true := of_decide_eq_true (S.at_ 7 3 rfl rfl)
  obtain ⟨oc43, od43, kV43, dc43, pm43, an43, cd43, ct43, sl43, l43, c43⟩ := S.f0 43 (d := fe43) rfl rfl
  have a44 : PySem.W.nsIn K mainGlobals "_law_great_store" = some (some (.ref (He.ga K "_law_great_store"))) := of_decide_eq_true (S.at_ 7 4 rfl rfl)
  have k44 : PySem.W.keepIn K (.ref (He.ga K "_law_great_store")) = true := of_decide_eq_true (S.at_ 7 5 rfl rfl)
  obtain ⟨oc44, od44, kV44, dc44, pm44, an44, cd44, ct44, sl44, l44, c44⟩ := S.f0 44 (d := fe44) rfl rfl
  have a45 : PySem.W.nsIn K mainGlobals "_law_merged" = some (some (.ref (He.ga K "_law_merged"))) := of_decide_eq_true (S.at_ 7 6 rfl rfl)
  have k45 : PySem.W.keepIn K (.ref (He.ga K "_law_merged")) = true := of_decide_eq_true (S.at_ 7 7 rfl rfl)
  obtain ⟨oc45, od45, kV45, dc45, pm45, an45, cd45, ct45, sl45, l45, c45⟩ := S.f0 45 (d := fe45) rfl rfl
  have a46 : PySem.W.nsIn K mainGlobals "_law_made_lot" = some (some (.ref (He.ga K "_law_made_lot"))) := of_decide_eq_true (S.at_ 7 8 rfl rfl)
  have k46 : PySem.W.keepIn K (.ref (He.ga K "_law_made_lot")) = true := of_decide_eq_true (S.at_ 7 9 rfl rfl)
  obtain ⟨oc46, od46, kV46, dc46, pm46, an46, cd46, ct46, sl46, l46, c46⟩ := S.f0 46 (d := fe46) rfl rfl
  have a47 : PySem.W.nsIn K mainGlobals "_law_made_store" = some (some (.ref (He.ga K "_law_made_store"))) := of_decide_eq_true (S.at_ 7 10 rfl rfl)
  have k47 : PySem.W.keepIn K (.ref (He.ga K "_law_made_store")) = true := of_decide_eq_true (S.at_ 7 11 rfl rfl)
  obtain ⟨oc47, od47, kV47, dc47, pm47, an47, cd47, ct47, sl47, l47, c47⟩ := S.f0 47 (d := fe47) rfl rfl
  have a48 : PySem.W.nsIn K mainGlobals "_law_total" = some (some (.ref (He.ga K "_law_total"))) := of_decide_eq_true (S.at_ 8 0 rfl rfl)
  have k48 : PySem.W.keepIn K (.ref (He.ga K "_law_total")) = true := of_decide_eq_true (S.at_ 8 1 rfl rfl)
  obtain ⟨oc48, od48, kV48, dc48, pm48, an48, cd48, ct48, sl48, l48, c48⟩ := S.f0 48 (d := fe48) rfl rfl
  have a49 : PySem.W.nsIn K mainGlobals "_law_units" = some (some (.ref (He.ga K "_law_units"))) := of_decide_eq_true (S.at_ 8 2 rfl rfl)
  have k49 : PySem.W.keepIn K (.ref (He.ga K "_law_units")) = true := of_decide_eq_true (S.at_ 8 3 rfl rfl)
  obtain ⟨oc49, od49, kV49, dc49, pm49, an49, cd49, ct49, sl49, l49, c49⟩ := S.f0 49 (d := fe49) rfl rfl
  have a50 : PySem.W.nsIn K mainGlobals "_law_space" = some (some (.ref (He.ga K "_law_space"))) := of_decide_eq_true (S.at_ 8 4 rfl rfl)
  have k50 : PySem.W.keepIn K (.ref (He.ga K "_law_space")) = true := of_decide_eq_true (S.at_ 8 5 rfl rfl)
  obtain ⟨oc50, od50, kV50, dc50, pm50, an50, cd50, ct50, sl50, l50, c50⟩ := S.f0 50 (d := fe50) rfl rfl
  have a51 : PySem.W.nsIn K mainGlobals "_law_bars" = some (some (.ref (He.ga K "_law_bars"))) := of_decide_eq_true (S.at_ 8 6 rfl rfl)
  have k51 : PySem.W.keepIn K (.ref (He.ga K "_law_bars")) = true := of_decide_eq_true (S.at_ 8 7 rfl rfl)
  obtain ⟨oc51, od51, kV51, dc51, pm51, an51, cd51, ct51, sl51, l51, c51⟩ := S.f0 51 (d := fe51) rfl rfl
  have a52 : PySem.W.nsIn K mainGlobals "_law_number" = some (some (.ref (He.ga K "_law_number"))) := of_decide_eq_true (S.at_ 8 8 rfl rfl)
  have k52 : PySem.W.keepIn K (.ref (He.ga K "_law_number")) = true := of_decide_eq_true (S.at_ 8 9 rfl rfl)
  obtain ⟨oc52, od52, kV52, dc52, pm52, an52, cd52, ct52, sl52, l52, c52⟩ := S.f0 52 (d := fe52) rfl rfl
  have a53 : PySem.W.nsIn K mainGlobals "_law_is_part" = some (some (.ref (He.ga K "_law_is_part"))) := of_decide_eq_true (S.at_ 8 10 rfl rfl)
  have k53 : PySem.W.keepIn K (.ref (He.ga K "_law_is_part")) = true := of_decide_eq_true (S.at_ 8 11 rfl rfl)
  obtain ⟨oc53, od53, kV53, dc53, pm53, an53, cd53, ct53, sl53, l53, c53⟩ := S.f0 53 (d := fe53) rfl rfl
  have a54 : PySem.W.nsIn K mainGlobals "_law_smaller_total" = some (some (.ref (He.ga K "_law_smaller_total"))) := of_decide_eq_true (S.at_ 9 0 rfl rfl)
  have k54 : PySem.W.keepIn K (.ref (He.ga K "_law_smaller_total")) = true := of_decide_eq_true (S.at_ 9 1 rfl rfl)
  obtain ⟨oc54, od54, kV54, dc54, pm54, an54, cd54, ct54, sl54, l54, c54⟩ := S.f0 54 (d := fe54) rfl rfl
  have a55 : PySem.W.nsIn K mainGlobals "_law_smallest" = some (some (.ref (He.ga K "_law_smallest"))) := of_decide_eq_true (S.at_ 9 2 rfl rfl)
  have k55 : PySem.W.keepIn K (.ref (He.ga K "_law_smallest")) = true := of_decide_eq_true (S.at_ 9 3 rfl rfl)
  obtain ⟨oc55, od55, kV55, dc55, pm55, an55, cd55, ct55, sl55, l55, c55⟩ := S.f0 55 (d := fe55) rfl rfl
  have a56 : PySem.W.nsIn K mainGlobals "_law_is_shown" = some (some (.ref (He.ga K "_law_is_shown"))) := of_decide_eq_true (S.at_ 9 4 rfl rfl)
  have k56 : PySem.W.keepIn K (.ref (He.ga K "_law_is_shown")) = true := of_decide_eq_true (S.at_ 9 5 rfl rfl)
  obtain ⟨oc56, od56, kV56, dc56, pm56, an56, cd56, ct56, sl56, l56, c56⟩ := S.f0 56 (d := fe56) rfl rfl
  have a57 : PySem.W.nsIn K mainGlobals "_law_right" = some (some (.ref (He.ga K "_law_right"))) := of_decide_eq_true (S.at_ 9 6 rfl rfl)
  have k57 : PySem.W.keepIn K (.ref (He.ga K "_law_right")) = true := of_decide_eq_true (S.at_ 9 7 rfl rfl)
  obtain ⟨oc57, od57, kV57, dc57, pm57, an57, cd57, ct57, sl57, l57, c57⟩ := S.f0 57 (d := fe57) rfl rfl
  have a58 : PySem.W.nsIn K mainGlobals "law" = some (some (.ref (He.ga K "law"))) := of_decide_eq_true (S.at_ 9 8 rfl rfl)
  have k58 : PySem.W.keepIn K (.ref (He.ga K "law")) = true := of_decide_eq_true (S.at_ 9 9 rfl rfl)
  obtain ⟨oc58, od58, kV58, dc58, pm58, an58, cd58, ct58, sl58, l58, c58⟩ := S.f0 58 (d := fe58) rfl rfl
  have z_abs : PySem.W.nsIn K mainGlobals "abs" = some none := of_decide_eq_true (S.at_ 9 10 rfl rfl)
  have z_all : PySem.W.nsIn K mainGlobals "all" = some none := of_decide_eq_true (S.at_ 9 11 rfl rfl)
  have z_any : PySem.W.nsIn K mainGlobals "any" = some none := of_decide_eq_true (S.at_ 10 0 rfl rfl)
  have z_bool : PySem.W.nsIn K mainGlobals "bool" = some none := of_decide_eq_true (S.at_ 10 1 rfl rfl)
  have z_dict : PySem.W.nsIn K mainGlobals "dict" = some none := of_decide_eq_true (S.at_ 10 2 rfl rfl)
  have z_int : PySem.W.nsIn K mainGlobals "int" = some none := of_decide_eq_true (S.at_ 10 3 rfl rfl)
  have z_isinstance : PySem.W.nsIn K mainGlobals "isinstance" = some none := of_decide_eq_true (S.at_ 10 4 rfl rfl)
  have z_len : PySem.W.nsIn K mainGlobals "len" = some none := of_decide_eq_true (S.at_ 10 5 rfl rfl)
  have z_list : PySem.W.nsIn K mainGlobals "list" = some none := of_decide_eq_true (S.at_ 10 6 rfl rfl)
  have z_max : PySem.W.nsIn K mainGlobals "max" = some none := of_decide_eq_true (S.at_ 10 7 rfl rfl)
  have z_min : PySem.W.nsIn K mainGlobals "min" = some none := of_decide_eq_true (S.at_ 10 8 rfl rfl)
  have z_range : PySem.W.nsIn K mainGlobals "range" = some none := of_decide_eq_true (S.at_ 10 9 rfl rfl)
  have z_set : PySem.W.nsIn K mainGlobals "set" = some none := of_decide_eq_true (S.at_ 10 10 rfl rfl)
  have z_sorted : PySem.W.nsIn K mainGlobals "sorted" = some none := of_decide_eq_true (S.at_ 10 11 rfl rfl)
  have z_str : PySem.W.nsIn K mainGlobals "str" = some none := of_decide_eq_true (S.at_ 11 0 rfl rfl)
  have z_sum : PySem.W.nsIn K mainGlobals "sum" = some none := of_decide_eq_true (S.at_ 11 1 rfl rfl)
  have z_tuple : PySem.W.nsIn K mainGlobals "tuple" = some none := of_decide_eq_true (S.at_ 11 2 rfl rfl)
  have z_zip : PySem.W.nsIn K mainGlobals "zip" = some none := of_decide_eq_true (S.at_ 11 3 rfl rfl)
  obtain ⟨t_MAX_FIGURES, q_MAX_FIGURES⟩ := hdInt_of (S.at_ 11 4 rfl rfl)
  obtain ⟨t_MAX_RUNS, q_MAX_RUNS⟩ := hdInt_of (S.at_ 11 5 rfl rfl)
  obtain ⟨t_MAX_SIZES, q_MAX_SIZES⟩ := hdInt_of (S.at_ 11 6 rfl rfl)
  have e_n : PySem.W.specialIn K (.builtin "object.__class__") "__get__" = some (some (.builtin "getset_descriptor.__get__")) := of_decide_eq_true (S.at_ 11 7 rfl rfl)
  have e_t : PySem.W.takesIn K (.builtin "object.__class__") = some true := of_decide_eq_true (S.at_ 11 8 rfl rfl)
  have a_Lot : PySem.W.nsIn K mainGlobals "Lot" = some (some (.ref (He.ga K "Lot"))) := of_decide_eq_true (S.at_ 11 9 rfl rfl)
  have pg_Lot : PySem.W.plainGet K (He.ga K "Lot") Str.empty = true := of_decide_eq_true (S.at_ 11 10 rfl rfl)
  have hd_Lot : PySem.W.hasDictIn K (He.ga K "Lot") = true := of_decide_eq_true (S.at_ 11 11 rfl rfl)
  have po_Lot : PySem.W.plainOver K (He.ga K "Lot") = true := of_decide_eq_true (S.at_ 12 0 rfl rfl)
  have sa_Lot : PySem.W.findIn K (.ref (He.ga K "Lot")) "__setattr__" = some (some (.builtin "object.__setattr__")) := of_decide_eq_true (S.at_ 12 1 rfl rfl)
  have mk_Lot : PySem.W.makesIn K (He.ga K "Lot") = true := of_decide_eq_true (S.at_ 12 2 rfl rfl)
  have kp_Lot : PySem.W.keepIn K (.ref (He.ga K "Lot")) = true := of_decide_eq_true (S.at_ 12 3 rfl rfl)
  have ha_Lot : PySem.W.findIn K (.ref (He.ga K "Lot")) "__class__" = some (some (.builtin "object.__class__")) := of_decide_eq_true (S.at_ 12 4 rfl rfl)
  have n0_Lot : PySem.W.findIn K (.ref (He.ga K "Lot")) "_sizes" = some none := of_decide_eq_true (S.at_ 12 5 rfl rfl)
  have n1_Lot : PySem.W.findIn K (.ref (He.ga K "Lot")) "_pairs" = some none := of_decide_eq_true (S.at_ 12 6 rfl rfl)
  have n2_Lot : PySem.W.findIn K (.ref (He.ga K "Lot")) "_counts" = some none := of_decide_eq_true (S.at_ 12 7 rfl rfl)
  have ksf_Lot : PySem.W.selfFirst K (He.ga K "Lot") = true := of_decide_eq_true (S.at_ 12 8 rfl rfl)
  have kttoint_Lot : PySem.W.subIn K (.ref (He.ga K "Lot")) (.type "int") = some false := of_decide_eq_true (S.at_ 12 9 rfl rfl)
  have ktofdict_Lot : PySem.W.subIn K (.type "dict") (.ref (He.ga K "Lot")) = some false := of_decide_eq_true (S.at_ 12 10 rfl rfl)
  have ktofint_Lot : PySem.W.subIn K (.type "int") (.ref (He.ga K "Lot")) = some false := of_decide_eq_true (S.at_ 12 11 rfl rfl)
  have ktofNoneType_Lot : PySem.W.subIn K (.type "NoneType") (.ref (He.ga K "Lot")) = some false := of_decide_eq_true (S.at_ 13 0 rfl rfl)
  have kic_Lot : PySem.W.isClsIn K (He.ga K "Lot") = true := of_decide_eq_true (S.at_ 13 1 rfl rfl)
  have kty_Lot : PySem.W.typeIn K (.ref (He.ga K "Lot")) = some (.type "type") := of_decide_eq_true (S.at_ 13 2 rfl rfl)
  have fa_Lot_init : PySem.W.findIn K (.ref (He.ga K "Lot")) "__init__" = some (some (.ref (mP K "Lot" "__init__"))) := of_decide_eq_true (S.at_ 13 3 rfl rfl)
  have fi_Lot_init : PySem.W.isFn K (.ref (mP K "Lot" "__init__")) = true := of_decide_eq_true (S.at_ 13 4 rfl rfl)
  obtain ⟨T_Lot_init, ⟨oc_Lot_init, od_Lot_init, kV_Lot_init, dc_Lot_init, pm_Lot_init, an_Lot_init, cd_Lot_init, ct_Lot_init, sl_Lot_init, fl_Lot_init, fc_Lot_init⟩, oT_Lot_init, dT_Lot_init, nT_Lot_init, sT_Lot_init, ft_Lot_init⟩ := S.f1 59 (d := fe59) rfl rfl
  have fk_Lot_init : PySem.W.keepIn K (.ref (mP K "Lot" "__init__")) = true := of_decide_eq_true (S.at_ 13 5 rfl rfl)
  have pa_Lot_counts : PySem.W.findIn K (.ref (He.ga K "Lot")) "counts" = some (some (.ref (mP K "Lot" "counts"))) := of_decide_eq_true (S.at_ 13 6 rfl rfl)
  have pt_Lot_counts : PySem.W.specialIn K (.ref (mP K "Lot" "counts")) "__get__" = some (some (.builtin "property.__get__")) := of_decide_eq_true (S.at_ 13 7 rfl rfl)
  have pk_Lot_counts : PySem.W.takesIn K (.ref (mP K "Lot" "counts")) = some true := of_decide_eq_true (S.at_ 13 8 rfl rfl)
  obtain ⟨rs_Lot_counts, pr_Lot_counts⟩ := hdRec_ok (S.at_ 13 9 rfl rfl)
  obtain ⟨oc_Lot_counts, od_Lot_counts, kV_Lot_counts, dc_Lot_counts, pm_Lot_counts, an_Lot_counts, cd_Lot_counts, ct_Lot_counts, sl_Lot_counts, fl_Lot_counts, fc_Lot_counts⟩ := S.f0 60 (d := fe60) rfl rfl
  have fk_Lot_counts : PySem.W.keepIn K (.ref (gP K "Lot" "counts")) = true := of_decide_eq_true (S.at_ 13 10 rfl rfl)
  have pa_Lot_sizes : PySem.W.findIn K (.ref (He.ga K "Lot")) "sizes" = some (some (.ref (mP K "Lot" "sizes"))) := of_decide_eq_true (S.at_ 13 11 rfl rfl)
  have pt_Lot_sizes : PySem.W.specialIn K (.ref (mP K "Lot" "sizes")) "__get__" = some (some (.builtin "property.__get__")) := of_decide_eq_true (S.at_ 14 0 rfl rfl)
  have pk_Lot_sizes : PySem.W.takesIn K (.ref (mP K "Lot" "sizes")) = some true := of_decide_eq_true (S.at_ 14 1 rfl rfl)
  obtain ⟨rs_Lot_sizes, pr_Lot_sizes⟩ := hdRec_ok (S.at_ 14 2 rfl rfl)
  obtain ⟨oc_Lot_sizes, od_Lot_sizes, kV_Lot_sizes, dc_Lot_sizes, pm_Lot_sizes, an_Lot_sizes, cd_Lot_sizes, ct_Lot_sizes, sl_Lot_sizes, fl_Lot_sizes, fc_Lot_sizes⟩ := S.f0 61 (d := fe61) rfl rfl
  have fk_Lot_sizes : PySem.W.keepIn K (.ref (gP K "Lot" "sizes")) = true := of_decide_eq_true (S.at_ 14 3 rfl rfl)
  have pa_Lot_number : PySem.W.findIn K (.ref (He.ga K "Lot")) "number" = some (some (.ref (mP K "Lot" "number"))) := of_decide_eq_true (S.at_ 14 4 rfl rfl)
  have pt_Lot_number : PySem.W.specialIn K (.ref (mP K "Lot" "number")) "__get__" = some (some (.builtin "property.__get__")) := of_decide_eq_true (S.at_ 14 5 rfl rfl)
  have pk_Lot_number : PySem.W.takesIn K (.ref (mP K "Lot" "number")) = some true := of_decide_eq_true (S.at_ 14 6 rfl rfl)
  obtain ⟨rs_Lot_number, pr_Lot_number⟩ := hdRec_ok (S.at_ 14 7 rfl rfl)
  obtain ⟨oc_Lot_number, od_Lot_number, kV_Lot_number, dc_Lot_number, pm_Lot_number, an_Lot_number, cd_Lot_number, ct_Lot_number, sl_Lot_number, fl_Lot_number, fc_Lot_number⟩ := S.f0 62 (d := fe62) rfl rfl
  have fk_Lot_number : PySem.W.keepIn K (.ref (gP K "Lot" "number")) = true := of_decide_eq_true (S.at_ 14 8 rfl rfl)
  have pa_Lot_total : PySem.W.findIn K (.ref (He.ga K "Lot")) "total" = some (some (.ref (mP K "Lot" "total"))) := of_decide_eq_true (S.at_ 14 9 rfl rfl)
  have pt_Lot_total : PySem.W.specialIn K (.ref (mP K "Lot" "total")) "__get__" = some (some (.builtin "property.__get__")) := of_decide_eq_true (S.at_ 14 10 rfl rfl)
  have pk_Lot_total : PySem.W.takesIn K (.ref (mP K "Lot" "total")) = some true := of_decide_eq_true (S.at_ 14 11 rfl rfl)
  obtain ⟨rs_Lot_total, pr_Lot_total⟩ := hdRec_ok (S.at_ 15 0 rfl rfl)
  obtain ⟨oc_Lot_total, od_Lot_total, kV_Lot_total, dc_Lot_total, pm_Lot_total, an_Lot_total, cd_Lot_total, ct_Lot_total, sl_Lot_total, fl_Lot_total, fc_Lot_total⟩ := S.f0 63 (d := fe63) rfl rfl
  have fk_Lot_total : PySem.W.keepIn K (.ref (gP K "Lot" "total")) = true := of_decide_eq_true (S.at_ 15 1 rfl rfl)
  have fa_Lot_units : PySem.W.findIn K (.ref (He.ga K "Lot")) "units" = some (some (.ref (mP K "Lot" "units"))) := of_decide_eq_true (S.at_ 15 2 rfl rfl)
  have fi_Lot_units : PySem.W.isFn K (.ref (mP K "Lot" "units")) = true := of_decide_eq_true (S.at_ 15 3 rfl rfl)
  have ff_Lot_units : PySem.W.fnIn K (mP K "Lot" "units") = true := of_decide_eq_true (S.at_ 15 4 rfl rfl)
  obtain ⟨oc_Lot_units, od_Lot_units, kV_Lot_units, dc_Lot_units, pm_Lot_units, an_Lot_units, cd_Lot_units, ct_Lot_units, sl_Lot_units, fl_Lot_units, fc_Lot_units⟩ := S.f0 64 (d := fe64) rfl rfl
  have fk_Lot_units : PySem.W.keepIn K (.ref (mP K "Lot" "units")) = true := of_decide_eq_true (S.at_ 15 5 rfl rfl)
  have fa_Lot_is_part_of : PySem.W.findIn K (.ref (He.ga K "Lot")) "is_part_of" = some (some (.ref (mP K "Lot" "is_part_of"))) := of_decide_eq_true (S.at_ 15 6 rfl rfl)
  have fi_Lot_is_part_of : PySem.W.isFn K (.ref (mP K "Lot" "is_part_of")) = true := of_decide_eq_true (S.at_ 15 7 rfl rfl)
  have ff_Lot_is_part_of : PySem.W.fnIn K (mP K "Lot" "is_part_of") = true := of_decide_eq_true (S.at_ 15 8 rfl rfl)
  obtain ⟨oc_Lot_is_part_of, od_Lot_is_part_of, kV_Lot_is_part_of, dc_Lot_is_part_of, pm_Lot_is_part_of, an_Lot_is_part_of, cd_Lot_is_part_of, ct_Lot_is_part_of, sl_Lot_is_part_of, fl_Lot_is_part_of, fc_Lot_is_part_of⟩ := S.f0 65 (d := fe65) rfl rfl
  have fk_Lot_is_part_of : PySem.W.keepIn K (.ref (mP K "Lot" "is_part_of")) = true := of_decide_eq_true (S.at_ 15 9 rfl rfl)
  have fa_Lot_with_count : PySem.W.findIn K (.ref (He.ga K "Lot")) "with_count" = some (some (.ref (mP K "Lot" "with_count"))) := of_decide_eq_true (S.at_ 15 10 rfl rfl)
  have fi_Lot_with_count : PySem.W.isFn K (.ref (mP K "Lot" "with_count")) = true := of_decide_eq_true (S.at_ 15 11 rfl rfl)
  have ff_Lot_with_count : PySem.W.fnIn K (mP K "Lot" "with_count") = true := of_decide_eq_true (S.at_ 16 0 rfl rfl)
  obtain ⟨oc_Lot_with_count, od_Lot_with_count, kV_Lot_with_count, dc_Lot_with_count, pm_Lot_with_count, an_Lot_with_count, cd_Lot_with_count, ct_Lot_with_count, sl_Lot_with_count, fl_Lot_with_count, fc_Lot_with_count⟩ := S.f0 66 (d := fe66) rfl rfl
  have fk_Lot_with_count : PySem.W.keepIn K (.ref (mP K "Lot" "with_count")) = true := of_decide_eq_true (S.at_ 16 1 rfl rfl)
  have fa_Lot_add : PySem.W.findIn K (.ref (He.ga K "Lot")) "__add__" = some (some (.ref (mP K "Lot" "__add__"))) := of_decide_eq_true (S.at_ 16 2 rfl rfl)
  have fi_Lot_add : PySem.W.isFn K (.ref (mP K "Lot" "__add__")) = true := of_decide_eq_true (S.at_ 16 3 rfl rfl)
  have ff_Lot_add : PySem.W.fnIn K (mP K "Lot" "__add__") = true := of_decide_eq_true (S.at_ 16 4 rfl rfl)
  obtain ⟨oc_Lot_add, od_Lot_add, kV_Lot_add, dc_Lot_add, pm_Lot_add, an_Lot_add, cd_Lot_add, ct_Lot_add, sl_Lot_add, fl_Lot_add, fc_Lot_add⟩ := S.f0 67 (d := fe67) rfl rfl
  have fk_Lot_add : PySem.W.keepIn K (.ref (mP K "Lot" "__add__")) = true := of_decide_eq_true (S.at_ 16 5 rfl rfl)
  have fa_Lot_getitem : PySem.W.findIn K (.ref (He.ga K "Lot")) "__getitem__" = some (some (.ref (mP K "Lot" "__getitem__"))) := of_decide_eq_true (S.at_ 16 6 rfl rfl)
  have fi_Lot_getitem : PySem.W.isFn K (.ref (mP K "Lot" "__getitem__")) = true := of_decide_eq_true (S.at_ 16 7 rfl rfl)
  have ff_Lot_getitem : PySem.W.fnIn K (mP K "Lot" "__getitem__") = true := of_decide_eq_true (S.at_ 16 8 rfl rfl)
  obtain ⟨oc_Lot_getitem, od_Lot_getitem, kV_Lot_getitem, dc_Lot_getitem, pm_Lot_getitem, an_Lot_getitem, cd_Lot_getitem, ct_Lot_getitem, sl_Lot_getitem, fl_Lot_getitem, fc_Lot_getitem⟩ := S.f0 68 (d := fe68) rfl rfl
  have fk_Lot_getitem : PySem.W.keepIn K (.ref (mP K "Lot" "__getitem__")) = true := of_decide_eq_true (S.at_ 16 9 rfl rfl)
  have fa_Lot_contains : PySem.W.findIn K (.ref (He.ga K "Lot")) "__contains__" = some (some (.ref (mP K "Lot" "__contains__"))) := of_decide_eq_true (S.at_ 16 10 rfl rfl)
  have fi_Lot_contains : PySem.W.isFn K (.ref (mP K "Lot" "__contains__")) = true := of_decide_eq_true (S.at_ 16 11 rfl rfl)
  have ff_Lot_contains : PySem.W.fnIn K (mP K "Lot" "__contains__") = true := of_decide_eq_true (S.at_ 17 0 rfl rfl)
  obtain ⟨oc_Lot_contains, od_Lot_contains, kV_Lot_contains, dc_Lot_contains, pm_Lot_contains, an_Lot_contains, cd_Lot_contains, ct_Lot_contains, sl_Lot_contains, fl_Lot_contains, fc_Lot_contains⟩ := S.f0 69 (d := fe69) rfl rfl
  have fk_Lot_contains : PySem.W.keepIn K (.ref (mP K "Lot" "__contains__")) = true := of_decide_eq_true (S.at_ 17 1 rfl rfl)
  have fa_Lot_len : PySem.W.findIn K (.ref (He.ga K "Lot")) "__len__" = some (some (.ref (mP K "Lot" "__len__"))) := of_decide_eq_true (S.at_ 17 2 rfl rfl)
  have fi_Lot_len : PySem.W.isFn K (.ref (mP K "Lot" "__len__")) = true := of_decide_eq_true (S.at_ 17 3 rfl rfl)
  have ff_Lot_len : PySem.W.fnIn K (mP K "Lot" "__len__") = true := of_decide_eq_true (S.at_ 17 4 rfl rfl)
  obtain ⟨oc_Lot_len, od_Lot_len, kV_Lot_len, dc_Lot_len, pm_Lot_len, an_Lot_len, cd_Lot_len, ct_Lot_len, sl_Lot_len, fl_Lot_len, fc_Lot_len⟩ := S.f0 70 (d := fe70) rfl rfl
  have fk_Lot_len : PySem.W.keepIn K (.ref (mP K "Lot" "__len__")) = true := of_decide_eq_true (S.at_ 17 5 rfl rfl)
  have fa_Lot_eq : PySem.W.findIn K (.ref (He.ga K "Lot")) "__eq__" = some (some (.ref (mP K "Lot" "__eq__"))) := of_decide_eq_true (S.at_ 17 6 rfl rfl)
  have fi_Lot_eq : PySem.W.isFn K (.ref (mP K "Lot" "__eq__")) = true := of_decide_eq_true (S.at_ 17 7 rfl rfl)
  have ff_Lot_eq : PySem.W.fnIn K (mP K "Lot" "__eq__") = true := of_decide_eq_true (S.at_ 17 8 rfl rfl)
  obtain ⟨oc_Lot_eq, od_Lot_eq, kV_Lot_eq, dc_Lot_eq, pm_Lot_eq, an_Lot_eq, cd_Lot_eq, ct_Lot_eq, sl_Lot_eq, fl_Lot_eq, fc_Lot_eq⟩ := S.f0 71 (d := fe71) rfl rfl
  have fk_Lot_eq : PySem.W.keepIn K (.ref (mP K "Lot" "__eq__")) = true := of_decide_eq_true (S.at_ 17 9 rfl rfl)
  have a_Store : PySem.W.nsIn K mainGlobals "Store" = some (some (.ref (He.ga K "Store"))) := of_decide_eq_true (S.at_ 17 10 rfl rfl)
  have pg_Store : PySem.W.plainGet K (He.ga K "Store") Str.empty = true := of_decide_eq_true (S.at_ 17 11 rfl rfl)
  have hd_Store : PySem.W.hasDictIn K (He.ga K "Store") = true := of_decide_eq_true (S.at_ 18 0 rfl rfl)
  have po_Store : PySem.W.plainOver K (He.ga K "Store") = true := of_decide_eq_true (S.at_ 18 1 rfl rfl)
  have sa_Store : PySem.W.findIn K (.ref (He.ga K "Store")) "__setattr__" = some (some (.builtin "object.__setattr__")) := of_decide_eq_true (S.at_ 18 2 rfl rfl)
  have mk_Store : PySem.W.makesIn K (He.ga K "Store") = true := of_decide_eq_true (S.at_ 18 3 rfl rfl)
  have kp_Store : PySem.W.keepIn K (.ref (He.ga K "Store")) = true := of_decide_eq_true (S.at_ 18 4 rfl rfl)
  have ha_Store : PySem.W.findIn K (.ref (He.ga K "Store")) "__class__" = some (some (.builtin "object.__class__")) := of_decide_eq_true (S.at_ 18 5 rfl rfl)
  have n0_Store : PySem.W.findIn K (.ref (He.ga K "Store")) "_runs" = some none := of_decide_eq_true (S.at_ 18 6 rfl rfl)
  have fa_Store_init : PySem.W.findIn K (.ref (He.ga K "Store")) "__init__" = some (some (.ref (mP K "Store" "__init__"))) := of_decide_eq_true (S.at_ 18 7 rfl rfl)
  have fi_Store_init : PySem.W.isFn K (.ref (mP K "Store" "__init__")) = true := of_decide_eq_true (S.at_ 18 8 rfl rfl)
  obtain ⟨oc_Store_init, od_Store_init, kV_Store_init, dc_Store_init, pm_Store_init, an_Store_init, cd_Store_init, ct_Store_init, sl_Store_init, fl_Store_init, fc_Store_init⟩ := S.f0 72 (d := fe72) rfl rfl
  have fk_Store_init : PySem.W.keepIn K (.ref (mP K "Store" "__init__")) = true := of_decide_eq_true (S.at_ 18 9 rfl rfl)
  have fa_Store_units : PySem.W.findIn K (.ref (He.ga K "Store")) "units" = some (some (.ref (mP K "Store" "units"))) := of_decide_eq_true (S.at_ 18 10 rfl rfl)
  have fi_Store_units : PySem.W.isFn K (.ref (mP K "Store" "units")) = true := of_decide_eq_true (S.at_ 18 11 rfl rfl)
  have ff_Store_units : PySem.W.fnIn K (mP K "Store" "units") = true := of_decide_eq_true (S.at_ 19 0 rfl rfl)
  obtain ⟨oc_Store_units, od_Store_units, kV_Store_units, dc_Store_units, pm_Store_units, an_Store_units, cd_Store_units, ct_Store_units, sl_Store_units, fl_Store_units, fc_Store_units⟩ := S.f0 73 (d := fe73) rfl rfl
  have fk_Store_units : PySem.W.keepIn K (.ref (mP K "Store" "units")) = true := of_decide_eq_true (S.at_ 19 1 rfl rfl)
  have e := hfa.symm.trans (PySem.W.mg_of X G a58)
  cases e
  have B : Bl mg := ⟨PySem.W.mg_none_of X G z_abs, PySem.W.mg_none_of X G z_all, PySem.W.mg_none_of X G z_any, PySem.W.mg_none_of X G z_bool, PySem.W.mg_none_of X G z_dict, PySem.W.mg_none_of X G z_int, PySem.W.mg_none_of X G z_isinstance, PySem.W.mg_none_of X G z_len, PySem.W.mg_none_of X G z_list, PySem.W.mg_none_of X G z_max, PySem.W.mg_none_of X G z_min, PySem.W.mg_none_of X G z_range, PySem.W.mg_none_of X G z_set, PySem.W.mg_none_of X G z_sorted, PySem.W.mg_none_of X G z_str, PySem.W.mg_none_of X G z_sum, PySem.W.mg_none_of X G z_tuple, PySem.W.mg_none_of X G z_zip⟩
  have T : Cs mg := ⟨trivial, ⟨_, PySem.W.mg_of X G q_MAX_FIGURES, ⟨_, rfl⟩⟩, ⟨_, PySem.W.mg_of X G q_MAX_RUNS, ⟨_, rfl⟩⟩, ⟨_, PySem.W.mg_of X G q_MAX_SIZES, ⟨_, rfl⟩⟩⟩
  have F0 := fun_mk (st := s_is_integer) l0 c0 k0
  have D0 : Df K mg "is_integer" s_is_integer ["value"] := ⟨(He.ga K "is_integer"), _, F0, PySem.W.mg_of X G a0, F0.binds (ps := ["value"]) (fnb1 rfl fun _ _ _ _ _ _ _ => rfl)⟩
  have F1 := fun_mk (st := s_is_count) l1 c1 k1
  have D1 : Df K mg "is_count" s_is_count ["value"] := ⟨(He.ga K "is_count"), _, F1, PySem.W.mg_of X G a1, F1.binds (ps := ["value"]) (fnb1 rfl fun _ _ _ _ _ _ _ => rfl)⟩
  have F2 := fun_mk (st := s_is_size) l2 c2 k2
  have D2 : Df K mg "is_size" s_is_size ["value"] := ⟨(He.ga K "is_size"), _, F2, PySem.W.mg_of X G a2, F2.binds (ps := ["value"]) (fnb1 rfl fun _ _ _ _ _ _ _ => rfl)⟩
  have F3 := fun_mk (st := s_is_run) l3 c3 k3
  have D3 : Df K mg "is_run" s_is_run ["value"] := ⟨(He.ga K "is_run"), _, F3, PySem.W.mg_of X G a3, F3.binds (ps := ["value"]) (fnb1 rfl fun _ _ _ _ _ _ _ => rfl)⟩
  have F4 := fun_mk (st := s_number_of_all) l4 c4 k4
  have D4 : Df K mg "number_of_all" s_number_of_all ["runs"] := ⟨(He.ga K "number_of_all"), _, F4, PySem.W.mg_of X G a4, F4.binds (ps := ["runs"]) (fnb1 rfl fun _ _ _ _ _ _ _ => rfl)⟩
  have F5 := fun_mk (st := s_units_of) l5 c5 k5
  have D5 : Df K mg "units_of" s_units_of ["runs", "size"] := ⟨(He.ga K "units_of"), _, F5, PySem.W.mg_of X G a5, F5.binds (ps := ["runs", "size"]) (fnb2 rfl fun _ _ _ _ _ _ _ _ => rfl)⟩
  have F6 := fun_mk (st := s_joined_runs) l6 c6 k6
  have D6 : Df K mg "joined_runs" s_joined_runs ["runs"] := ⟨(He.ga K "joined_runs"), _, F6, PySem.W.mg_of X G a6, F6.binds (ps := ["runs"]) (fnb1 rfl fun _ _ _ _ _ _ _ => rfl)⟩
  have F7 := fun_mk (st := s_part_of_runs) l7 c7 k7
  have D7 : Df K mg "part_of_runs" s_part_of_runs ["runs", "first", "last"] := ⟨(He.ga K "part_of_runs"), _, F7, PySem.W.mg_of X G a7, F7.binds (ps := ["runs", "first", "last"]) (fnb3 rfl fun _ _ _ _ _ _ _ _ _ => rfl)⟩
  have F8 := fun_mk (st := s_check_size) l8 c8 k8
  have D8 : Df K mg "check_size" s_check_size ["value"] := ⟨(He.ga K "check_size"), _, F8, PySem.W.mg_of X G a8, F8.binds (ps := ["value"]) (fnb1 rfl fun _ _ _ _ _ _ _ => rfl)⟩
  have F9 := fun_mk (st := s_check_count) l9 c9 k9
  have D9 : Df K mg "check_count" s_check_count ["value"] := ⟨(He.ga K "check_count"), _, F9, PySem.W.mg_of X G a9, F9.binds (ps := ["value"]) (fnb1 rfl fun _ _ _ _ _ _ _ => rfl)⟩
  have F10 := fun_mk (st := s_check_between) l10 c10 k10
  have D10 : Df K mg "check_between" s_check_between ["value", "low", "high"] := ⟨(He.ga K "check_between"), _, F10, PySem.W.mg_of X G a10, F10.binds (ps := ["value", "low", "high"]) (fnb3 rfl fun _ _ _ _ _ _ _ _ _ => rfl)⟩
  have F11 := fun_mk (st := s_first_gap) l11 c11 k11
  have D11 : Df K mg "first_gap" s_first_gap ["sizes"] := ⟨(He.ga K "first_gap"), _, F11, PySem.W.mg_of X G a11, F11.binds (ps := ["sizes"]) (fnb1 rfl fun _ _ _ _ _ _ _ => rfl)⟩
  have F12 := fun_mk (st := s_check_lot) l12 c12 k12
  have D12 : Df K mg "check_lot" s_check_lot ["value"] := ⟨(He.ga K "check_lot"), _, F12, PySem.W.mg_of X G a12, F12.binds (ps := ["value"]) (fnb1 rfl fun _ _ _ _ _ _ _ => rfl)⟩
  have F13 := fun_mk (st := s__are_counts) l13 c13 k13
  have D13 : Df K mg "_are_counts" s__are_counts ["value"] := ⟨(He.ga K "_are_counts"), _, F13, PySem.W.mg_of X G a13, F13.binds (ps := ["value"]) (fnb1 rfl fun _ _ _ _ _ _ _ => rfl)⟩
  have F14 := fun_mk (st := s_check_store) l14 c14 k14
  have D14 : Df K mg "check_store" s_check_store ["value"] := ⟨(He.ga K "check_store"), _, F14, PySem.W.mg_of X G a14, F14.binds (ps := ["value"]) (fnb1 rfl fun _ _ _ _ _ _ _ => rfl)⟩
  have F15 := fun_mk (st := s_check_together) l15 c15 k15
  have D15 : Df K mg "check_together" s_check_together ["sizes"] := ⟨(He.ga K "check_together"), _, F15, PySem.W.mg_of X G a15, F15.binds (ps := ["sizes"]) (fnb1 rfl fun _ _ _ _ _ _ _ => rfl)⟩
  have F16 := fun_mk (st := s_check_levels) l16 c16 k16
  have D16 : Dfa K mg "check_levels" "_check" s_check_levels ["lot", "store"] := ⟨(He.ga K "check_levels"), _, F16, PySem.W.mg_of X G a16, F16.binds (ps := ["lot", "store"]) (fnb2 rfl fun _ _ _ _ _ _ _ _ => rfl)⟩
  have F17 := fun_mk (st := s_levels_of) l17 c17 k17
  have D17 : Df K mg "levels_of" s_levels_of ["lot", "store"] := ⟨(He.ga K "levels_of"), _, F17, PySem.W.mg_of X G a17, F17.binds (ps := ["lot", "store"]) (fnb2 rfl fun _ _ _ _ _ _ _ _ => rfl)⟩
  have F18 := fun_mk (st := s_fits) l18 c18 k18
  have D18 : Df K mg "fits" s_fits ["lot", "store"] := ⟨(He.ga K "fits"), _, F18, PySem.W.mg_of X G a18, F18.binds (ps := ["lot", "store"]) (fnb2 rfl fun _ _ _ _ _ _ _ _ => rfl)⟩
  have F19 := fun_mk (st := s_barring_sizes) l19 c19 k19
  have D19 : Df K mg "barring_sizes" s_barring_sizes ["lot", "store"] := ⟨(He.ga K "barring_sizes"), _, F19, PySem.W.mg_of X G a19, F19.binds (ps := ["lot", "store"]) (fnb2 rfl fun _ _ _ _ _ _ _ _ => rfl)⟩
  have F20 := fun_mk (st := s_spare) l20 c20 k20
  have D20 : Df K mg "spare" s_spare ["lot", "store", "size"] := ⟨(He.ga K "spare"), _, F20, PySem.W.mg_of X G a20, F20.binds (ps := ["lot", "store", "size"]) (fnb3 rfl fun _ _ _ _ _ _ _ _ _ => rfl)⟩
  have F21 := fun_mk (st := s_check_most) l21 c21 k21
  have D21 : Dfa K mg "check_most" "_check" s_check_most ["lot", "store"] := ⟨(He.ga K "check_most"), _, F21, PySem.W.mg_of X G a21, F21.binds (ps := ["lot", "store"]) (fnb2 rfl fun _ _ _ _ _ _ _ _ => rfl)⟩
  have F22 := fun_mk (st := s_most_things) l22 c22 k22
  have D22 : Df K mg "most_things" s_most_things ["lot", "store"] := ⟨(He.ga K "most_things"), _, F22, PySem.W.mg_of X G a22, F22.binds (ps := ["lot", "store"]) (fnb2 rfl fun _ _ _ _ _ _ _ _ => rfl)⟩
  have F23 := fun_mk (st := s_most_total) l23 c23 k23
  have D23 : Df K mg "most_total" s_most_total ["lot", "store"] := ⟨(He.ga K "most_total"), _, F23, PySem.W.mg_of X G a23, F23.binds (ps := ["lot", "store"]) (fnb2 rfl fun _ _ _ _ _ _ _ _ => rfl)⟩
  have F24 := fun_mk (st := s_keep_things) l24 c24 k24
  have D24 : Df K mg "keep_things" s_keep_things ["lot", "store"] := ⟨(He.ga K "keep_things"), _, F24, PySem.W.mg_of X G a24, F24.binds (ps := ["lot", "store"]) (fnb2 rfl fun _ _ _ _ _ _ _ _ => rfl)⟩
  have F25 := fun_mk (st := s_keep_total) l25 c25 k25
  have D25 : Df K mg "keep_total" s_keep_total ["lot", "store"] := ⟨(He.ga K "keep_total"), _, F25, PySem.W.mg_of X G a25, F25.binds (ps := ["lot", "store"]) (fnb2 rfl fun _ _ _ _ _ _ _ _ => rfl)⟩
  have F26 := fun_mk (st := s__filled) l26 c26 k26
  have D26 : Df K mg "_filled" s__filled ["part", "lot", "store", "sizes"] := ⟨(He.ga K "_filled"), _, F26, PySem.W.mg_of X G a26, F26.binds (ps := ["part", "lot", "store", "sizes"]) (fnb4 rfl fun _ _ _ _ _ _ _ _ _ _ => rfl)⟩
  have F27 := fun_mk (st := s__is_fitting_part) l27 c27 k27
  have D27 : Df K mg "_is_fitting_part" s__is_fitting_part ["lot", "store", "value"] := ⟨(He.ga K "_is_fitting_part"), _, F27, PySem.W.mg_of X G a27, F27.binds (ps := ["lot", "store", "value"]) (fnb3 rfl fun _ _ _ _ _ _ _ _ _ => rfl)⟩
  have F28 := fun_mk (st := s_things_paper) l28 c28 k28
  have D28 : Df K mg "things_paper" s_things_paper ["lot", "store"] := ⟨(He.ga K "things_paper"), _, F28, PySem.W.mg_of X G a28, F28.binds (ps := ["lot", "store"]) (fnb2 rfl fun _ _ _ _ _ _ _ _ => rfl)⟩
  have F29 := fun_mk (st := s__one_more) l29 c29 k29
  have D29 : Df K mg "_one_more" s__one_more ["lot", "part"] := ⟨(He.ga K "_one_more"), _, F29, PySem.W.mg_of X G a29, F29.binds (ps := ["lot", "part"]) (fnb2 rfl fun _ _ _ _ _ _ _ _ => rfl)⟩
  have F30 := fun_mk (st := s_total_paper) l30 c30 k30
  have D30 : Df K mg "total_paper" s_total_paper ["lot", "store"] := ⟨(He.ga K "total_paper"), _, F30, PySem.W.mg_of X G a30, F30.binds (ps := ["lot", "store"]) (fnb2 rfl fun _ _ _ _ _ _ _ _ => rfl)⟩
  have F31 := fun_mk (st := s_is_things_paper) l31 c31 k31
  have D31 : Df K mg "is_things_paper" s_is_things_paper ["lot", "store", "value"] := ⟨(He.ga K "is_things_paper"), _, F31, PySem.W.mg_of X G a31, F31.binds (ps := ["lot", "store", "value"]) (fnb3 rfl fun _ _ _ _ _ _ _ _ _ => rfl)⟩
  have F32 := fun_mk (st := s_is_total_paper) l32 c32 k32
  have D32 : Df K mg "is_total_paper" s_is_total_paper ["lot", "store", "value"] := ⟨(He.ga K "is_total_paper"), _, F32, PySem.W.mg_of X G a32, F32.binds (ps := ["lot", "store", "value"]) (fnb3 rfl fun _ _ _ _ _ _ _ _ _ => rfl)⟩
  have F33 := fun_mk (st := s__is_part_paper) l33 c33 k33
  have D33 : Df K mg "_is_part_paper" s__is_part_paper ["lot", "store", "value"] := ⟨(He.ga K "_is_part_paper"), _, F33, PySem.W.mg_of X G a33, F33.binds (ps := ["lot", "store", "value"]) (fnb3 rfl fun _ _ _ _ _ _ _ _ _ => rfl)⟩
  have F34 := fun_mk (st := s__law_dice) l34 c34 k34
  have D34 : Df K mg "_law_dice" s__law_dice ["script", "spot"] := ⟨(He.ga K "_law_dice"), _, F34, PySem.W.mg_of X G a34, F34.binds (ps := ["script", "spot"]) (fnb2 rfl fun _ _ _ _ _ _ _ _ => rfl)⟩
  have F35 := fun_mk (st := s__law_roll) l35 c35 k35
  have D35 : Df K mg "_law_roll" s__law_roll ["dice", "total"] := ⟨(He.ga K "_law_roll"), _, F35, PySem.W.mg_of X G a35, F35.binds (ps := ["dice", "total"]) (fnb2 rfl fun _ _ _ _ _ _ _ _ => rfl)⟩
  have F36 := fun_mk (st := s__law_pick) l36 c36 k36
  have D36 : Df K mg "_law_pick" s__law_pick ["dice", "items"] := ⟨(He.ga K "_law_pick"), _, F36, PySem.W.mg_of X G a36, F36.binds (ps := ["dice", "items"]) (fnb2 rfl fun _ _ _ _ _ _ _ _ => rfl)⟩
  have F37 := fun_mk (st := s__law_mixed) l37 c37 k37
  have D37 : Df K mg "_law_mixed" s__law_mixed ["dice", "items"] := ⟨(He.ga K "_law_mixed"), _, F37, PySem.W.mg_of X G a37, F37.binds (ps := ["dice", "items"]) (fnb2 rfl fun _ _ _ _ _ _ _ _ => rfl)⟩
  have F38 := fun_mk (st := s__law_great) l38 c38 k38
  have D38 : Df K mg "_law_great" s__law_great ["dice", "least"] := ⟨(He.ga K "_law_great"), _, F38, PySem.W.mg_of X G a38, F38.binds (ps := ["dice", "least"]) (fnb2 rfl fun _ _ _ _ _ _ _ _ => rfl)⟩
  have F39 := fun_mk (st := s__law_chain) l39 c39 k39
  have D39 : Df K mg "_law_chain" s__law_chain ["dice", "many", "start"] := ⟨(He.ga K "_law_chain"), _, F39, PySem.W.mg_of X G a39, F39.binds (ps := ["dice", "many", "start"]) (fnb3 rfl fun _ _ _ _ _ _ _ _ _ => rfl)⟩
  have F40 := fun_mk (st := s__law_long_chain) l40 c40 k40
  have D40 : Df K mg "_law_long_chain" s__law_long_chain ["dice"] := ⟨(He.ga K "_law_long_chain"), _, F40, PySem.W.mg_of X G a40, F40.binds (ps := ["dice"]) (fnb1 rfl fun _ _ _ _ _ _ _ => rfl)⟩
  have F41 := fun_mk (st := s__law_small_lot) l41 c41 k41
  have D41 : Df K mg "_law_small_lot" s__law_small_lot ["dice", "sizes", "most"] := ⟨(He.ga K "_law_small_lot"), _, F41, PySem.W.mg_of X G a41, F41.binds (ps := ["dice", "sizes", "most"]) (fnb3 rfl fun _ _ _ _ _ _ _ _ _ => rfl)⟩
  have F42 := fun_mk (st := s__law_small_store) l42 c42 k42
  have D42 : Df K mg "_law_small_store" s__law_small_store ["dice", "greatest", "most"] := ⟨(He.ga K "_law_small_store"), _, F42, PySem.W.mg_of X G a42, F42.binds (ps := ["dice", "greatest", "most"]) (fnb3 rfl fun _ _ _ _ _ _ _ _ _ => rfl)⟩
  have F43 := fun_mk (st := s__law_great_lot) l43 c43 k43
  have D43 : Df K mg "_law_great_lot" s__law_great_lot ["dice", "sizes"] := ⟨(He.ga K "_law_great_lot"), _, F43, PySem.W.mg_of X G a43, F43.binds (ps := ["dice", "sizes"]) (fnb2 rfl fun _ _ _ _ _ _ _ _ => rfl)⟩
  have F44 := fun_mk (st := s__law_great_store) l44 c44 k44
  have D44 : Df K mg "_law_great_store" s__law_great_store ["dice", "sizes"] := ⟨(He.ga K "_law_great_store"), _, F44, PySem.W.mg_of X G a44, F44.binds (ps := ["dice", "sizes"]) (fnb2 rfl fun _ _ _ _ _ _ _ _ => rfl)⟩
  have F45 := fun_mk (st := s__law_merged) l45 c45 k45
  have D45 : Df K mg "_law_merged" s__law_merged ["runs"] := ⟨(He.ga K "_law_merged"), _, F45, PySem.W.mg_of X G a45, F45.binds (ps := ["runs"]) (fnb1 rfl fun _ _ _ _ _ _ _ => rfl)⟩
  have F46 := fun_mk (st := s__law_made_lot) l46 c46 k46
  have D46 : Df K mg "_law_made_lot" s__law_made_lot ["plain"] := ⟨(He.ga K "_law_made_lot"), _, F46, PySem.W.mg_of X G a46, F46.binds (ps := ["plain"]) (fnb1 rfl fun _ _ _ _ _ _ _ => rfl)⟩
  have F47 := fun_mk (st := s__law_made_store) l47 c47 k47
  have D47 : Df K mg "_law_made_store" s__law_made_store ["runs"] := ⟨(He.ga K "_law_made_store"), _, F47, PySem.W.mg_of X G a47, F47.binds (ps := ["runs"]) (fnb1 rfl fun _ _ _ _ _ _ _ => rfl)⟩
  have F48 := fun_mk (st := s__law_total) l48 c48 k48
  have D48 : Df K mg "_law_total" s__law_total ["plain"] := ⟨(He.ga K "_law_total"), _, F48, PySem.W.mg_of X G a48, F48.binds (ps := ["plain"]) (fnb1 rfl fun _ _ _ _ _ _ _ => rfl)⟩
  have F49 := fun_mk (st := s__law_units) l49 c49 k49
  have D49 : Df K mg "_law_units" s__law_units ["plain", "size"] := ⟨(He.ga K "_law_units"), _, F49, PySem.W.mg_of X G a49, F49.binds (ps := ["plain", "size"]) (fnb2 rfl fun _ _ _ _ _ _ _ _ => rfl)⟩
  have F50 := fun_mk (st := s__law_space) l50 c50 k50
  have D50 : Df K mg "_law_space" s__law_space ["runs", "size"] := ⟨(He.ga K "_law_space"), _, F50, PySem.W.mg_of X G a50, F50.binds (ps := ["runs", "size"]) (fnb2 rfl fun _ _ _ _ _ _ _ _ => rfl)⟩
  have F51 := fun_mk (st := s__law_bars) l51 c51 k51
  have D51 : Df K mg "_law_bars" s__law_bars ["plain", "runs"] := ⟨(He.ga K "_law_bars"), _, F51, PySem.W.mg_of X G a51, F51.binds (ps := ["plain", "runs"]) (fnb2 rfl fun _ _ _ _ _ _ _ _ => rfl)⟩
  have F52 := fun_mk (st := s__law_number) l52 c52 k52
  have D52 : Df K mg "_law_number" s__law_number ["plain"] := ⟨(He.ga K "_law_number"), _, F52, PySem.W.mg_of X G a52, F52.binds (ps := ["plain"]) (fnb1 rfl fun _ _ _ _ _ _ _ => rfl)⟩
  have F53 := fun_mk (st := s__law_is_part) l53 c53 k53
  have D53 : Df K mg "_law_is_part" s__law_is_part ["part", "plain"] := ⟨(He.ga K "_law_is_part"), _, F53, PySem.W.mg_of X G a53, F53.binds (ps := ["part", "plain"]) (fnb2 rfl fun _ _ _ _ _ _ _ _ => rfl)⟩
  have F54 := fun_mk (st := s__law_smaller_total) l54 c54 k54
  have D54 : Df K mg "_law_smaller_total" s__law_smaller_total ["plain", "size"] := ⟨(He.ga K "_law_smaller_total"), _, F54, PySem.W.mg_of X G a54, F54.binds (ps := ["plain", "size"]) (fnb2 rfl fun _ _ _ _ _ _ _ _ => rfl)⟩
  have F55 := fun_mk (st := s__law_smallest) l55 c55 k55
  have D55 : Df K mg "_law_smallest" s__law_smallest ["plain", "number"] := ⟨(He.ga K "_law_smallest"), _, F55, PySem.W.mg_of X G a55, F55.binds (ps := ["plain", "number"]) (fnb2 rfl fun _ _ _ _ _ _ _ _ => rfl)⟩
  have F56 := fun_mk (st := s__law_is_shown) l56 c56 k56
  have D56 : Df K mg "_law_is_shown" s__law_is_shown ["plain", "runs", "one", "other"] := ⟨(He.ga K "_law_is_shown"), _, F56, PySem.W.mg_of X G a56, F56.binds (ps := ["plain", "runs", "one", "other"]) (fnb4 rfl fun _ _ _ _ _ _ _ _ _ _ => rfl)⟩
  have F57 := fun_mk (st := s__law_right) l57 c57 k57
  have D57 : Df K mg "_law_right" s__law_right ["plain", "runs"] := ⟨(He.ga K "_law_right"), _, F57, PySem.W.mg_of X G a57, F57.binds (ps := ["plain", "runs"]) (fnb2 rfl fun _ _ _ _ _ _ _ _ => rfl)⟩
  have KL_Lot : Klass K mg "Lot" (He.ga K "Lot") := ⟨PySem.W.mg_of X G a_Lot, ⟨pg_Lot, hd_Lot, po_Lot, sa_Lot⟩, mk_Lot, kp_Lot, ha_Lot, e_n, e_t⟩
  have LT_Lot : LotT K mg (He.ga K "Lot") := ⟨KL_Lot, n0_Lot, n1_Lot, n2_Lot⟩
  have SF_Lot : PySem.W.selfFirst K (He.ga K "Lot") = true := ksf_Lot
  have LK_LotN : LotNK K (He.ga K "Lot") := ⟨kit_toT kttoint_Lot (by decide +kernel), kit_ofT ktofdict_Lot kic_Lot kty_Lot, kit_ofT ktofint_Lot kic_Lot kty_Lot, kit_ofT ktofNoneType_Lot kic_Lot kty_Lot⟩
  have DM_Lot_init : Din K mg "Lot" (He.ga K "Lot") "Lot.__init__" s_Lot_init ["self", "counts"] := din_mk (PySem.W.mg_of X G a_Lot) mk_Lot fa_Lot_init fi_Lot_init kp_Lot fl_Lot_init ft_Lot_init fc_Lot_init fk_Lot_init rfl (fun _ _ _ _ _ _ _ us its h1 h2 => match us, its, h1, h2 with | [_, _], [_], _, _ => ⟨_, rfl, rfl⟩) (fun _ _ _ _ _ _ _ us its h1 h2 => match us, its, h1, h2 with | [_], [_], _, _ => ⟨_, rfl, rfl⟩)
  have DM_Lot_counts : Dpr K (He.ga K "Lot") "counts" "Lot.counts" s_Lot_counts := dpr_mk pa_Lot_counts pt_Lot_counts pk_Lot_counts pr_Lot_counts fl_Lot_counts fc_Lot_counts fk_Lot_counts (fnb1 rfl fun _ _ _ _ _ _ _ => rfl)
  have DM_Lot_sizes : Dpr K (He.ga K "Lot") "sizes" "Lot.sizes" s_Lot_sizes := dpr_mk pa_Lot_sizes pt_Lot_sizes pk_Lot_sizes pr_Lot_sizes fl_Lot_sizes fc_Lot_sizes fk_Lot_sizes (fnb1 rfl fun _ _ _ _ _ _ _ => rfl)
  have DM_Lot_number : Dpr K (He.ga K "Lot") "number" "Lot.number" s_Lot_number := dpr_mk pa_Lot_number pt_Lot_number pk_Lot_number pr_Lot_number fl_Lot_number fc_Lot_number fk_Lot_number (fnb1 rfl fun _ _ _ _ _ _ _ => rfl)
  have DM_Lot_total : Dpr K (He.ga K "Lot") "total" "Lot.total" s_Lot_total := dpr_mk pa_Lot_total pt_Lot_total pk_Lot_total pr_Lot_total fl_Lot_total fc_Lot_total fk_Lot_total (fnb1 rfl fun _ _ _ _ _ _ _ => rfl)
  have DM_Lot_units : Dop K (He.ga K "Lot") "units" "Lot.units" s_Lot_units ["self", "size"] := dop_mk fa_Lot_units fi_Lot_units ff_Lot_units fl_Lot_units fc_Lot_units fk_Lot_units (fnb2 rfl fun _ _ _ _ _ _ _ _ => rfl)
  have DM_Lot_is_part_of : Dop K (He.ga K "Lot") "is_part_of" "Lot.is_part_of" s_Lot_is_part_of ["self", "value"] := dop_mk fa_Lot_is_part_of fi_Lot_is_part_of ff_Lot_is_part_of fl_Lot_is_part_of fc_Lot_is_part_of fk_Lot_is_part_of (fnb2 rfl fun _ _ _ _ _ _ _ _ => rfl)
  have DM_Lot_with_count : Dop K (He.ga K "Lot") "with_count" "Lot.with_count" s_Lot_with_count ["self", "size", "number"] := dop_mk fa_Lot_with_count fi_Lot_with_count ff_Lot_with_count fl_Lot_with_count fc_Lot_with_count fk_Lot_with_count (fnb3 rfl fun _ _ _ _ _ _ _ _ _ => rfl)
  have DM_Lot_add : Dop K (He.ga K "Lot") "__add__" "Lot.__add__" s_Lot_add ["self", "other"] := dop_mk fa_Lot_add fi_Lot_add ff_Lot_add fl_Lot_add fc_Lot_add fk_Lot_add (fnb2 rfl fun _ _ _ _ _ _ _ _ => rfl)
  have DM_Lot_getitem : Dop K (He.ga K "Lot") "__getitem__" "Lot.__getitem__" s_Lot_getitem ["self", "at"] := dop_mk fa_Lot_getitem fi_Lot_getitem ff_Lot_getitem fl_Lot_getitem fc_Lot_getitem fk_Lot_getitem (fnb2 rfl fun _ _ _ _ _ _ _ _ => rfl)
  have DM_Lot_contains : Dop K (He.ga K "Lot") "__contains__" "Lot.__contains__" s_Lot_contains ["self", "x"] := dop_mk fa_Lot_contains fi_Lot_contains ff_Lot_contains fl_Lot_contains fc_Lot_contains fk_Lot_contains (fnb2 rfl fun _ _ _ _ _ _ _ _ => rfl)
  have DM_Lot_len : Dop K (He.ga K "Lot") "__len__" "Lot.__len__" s_Lot_len ["self"] := dop_mk fa_Lot_len fi_Lot_len ff_Lot_len fl_Lot_len fc_Lot_len fk_Lot_len (fnb1 rfl fun _ _ _ _ _ _ _ => rfl)
  have DM_Lot_eq : Dop K (He.ga K "Lot") "__eq__" "Lot.__eq__" s_Lot_eq ["self", "other"] := dop_mk fa_Lot_eq fi_Lot_eq ff_Lot_eq fl_Lot_eq fc_Lot_eq fk_Lot_eq (fnb2 rfl fun _ _ _ _ _ _ _ _ => rfl)
  have KL_Store : Klass K mg "Store" (He.ga K "Store") := ⟨PySem.W.mg_of X G a_Store, ⟨pg_Store, hd_Store, po_Store, sa_Store⟩, mk_Store, kp_Store, ha_Store, e_n, e_t⟩
  have LT_Store : StoreT K mg (He.ga K "Store") := ⟨KL_Store, n0_Store⟩
  have DM_Store_init : Dis K mg "Store" (He.ga K "Store") "Store.__init__" s_Store_init "runs" := dis_mk (PySem.W.mg_of X G a_Store) mk_Store fa_Store_init fi_Store_init kp_Store fl_Store_init fc_Store_init (fun _ => rfl) (fun _ _ _ => rfl)
  have DM_Store_units : Dop K (He.ga K "Store") "units" "Store.units" s_Store_units ["self", "size"] := dop_mk fa_Store_units fi_Store_units ff_Store_units fl_Store_units fc_Store_units fk_Store_units (fnb2 rfl fun _ _ _ _ _ _ _ _ => rfl)
  exact ⟨PySem.W.fnOf "law" "law" (defArgs s_law) (defBody s_law) (defScope s_law) .none kV58 dc58 pm58 an58 cd58 ct58, fun s v => .of_eq rfl, fun base _ _ sm => ok_law B T D0 D1 D2 D3 D4 D5 D6 D7 D8 D9 D10 D11 D12 D13 D14 D15 D16 D17 D18 D19 D20 D21 D22 D23 D24 D25 D26 D27 D28 D29 D30 D31 D32 D33 D34 D35 D36 D37 D38 D39 D40 D41 D42 D43 D44 D45 D46 D47 D48 D49 D50 D51 D52 D53 D54 D55 D56 D57 LT_Lot SF_Lot LK_LotN DM_Lot_init DM_Lot_counts DM_Lot_sizes DM_Lot_number DM_Lot_total DM_Lot_units DM_Lot_is_part_of DM_Lot_with_count DM_Lot_add DM_Lot_getitem DM_Lot_contains DM_Lot_len DM_Lot_eq LT_Store DM_Store_init DM_Store_units (fun_mk (st := s_law) l58 c58 k58)⟩
end Lk57
open PySem PySem.W PySem.Calls PyProof.Rows
theorem PySem.Challenge.cw_chainpacks_k57_whole_papers_of_parts_holds : PySem.Challenge.rw_chainpacks_k57_whole_papers_of_parts.Holds := by
  w_on; o_law
  refine HandSHeadRun.head_any (r := OpenLaw.row PySem.Challenge.rw_chainpacks_k57_whole_papers_of_parts) (q := view (OpenLaw.row PySem.Challenge.rw_chainpacks_k57_whole_papers_of_parts).prog [84]) (H := Lk57.hk) (ob := Lk57.ob) (M := 18135) (loose := Lk57.nms) (d := HandSHeadRun.topDef (OpenLaw.row PySem.Challenge.rw_chainpacks_k57_whole_papers_of_parts).prog 84) (kwd := []) Ck.obsC_eq
    (by kernel_rfl) (fun s => by kernel_rfl) Lk57.run (by kernel_rfl) (by kernel_rfl) (by kernel_rfl) (by rfl) (by first | assumption | decide +kernel) (by decide +kernel) ⟨rfl, rfl, rfl, rfl, rfl, by decide +kernel⟩ ?hw ?hc
  case hw => w_witness2
  case hc =>
    refine Ck.walk_gC (l := PySem.Challenge.rw_chainpacks_k57_whole_papers_of_parts) (n := 63) (k := 14) (x := "script") (sp := fun w K cs => Lk57.spLaw K) (by decide +kernel) rfl (by decide) (by kernel_rfl) ⟨rfl, by decide, by decide⟩ ?F (fun w K cs H a ns hl hT hS => Lk57.start_law hl hS)
    intro w mg fa h Y G hmg0
    obtain ⟨K, KX, S⟩ := Y
    have hmg : mg ("law" : PySem.Str) = some (.ref fa) := by
      have e : (HandSHeadRun.topDef (OpenLaw.row PySem.Challenge.rw_chainpacks_k57_whole_papers_of_parts).prog 84).name = ("law" : PySem.Str) := by kernel_rfl
      rw [← e]
      exact hmg0
    obtain ⟨fd, hb, hF⟩ := Lk57.all_mk (P := (PySem.Challenge.rw_chainpacks_k57_whole_papers_of_parts).prog) (w := w) KX G hmg S
    exact ⟨K, [], fd, KX, (fun p hp => nomatch hp), (fun p hp => nomatch hp), (fun p hp => nomatch hp), hb, fun base h1 h2 h3 h4 => hF base h1 h2 h3⟩
