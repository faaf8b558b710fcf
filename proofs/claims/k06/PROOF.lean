import PyProof.Rows.All
import Wide.All
import OpenK.AllK
import Wide.FinOn
import HandS.ForMost
import HandS.Codes
import HandS.Steps
import HandS.IsInst
import HandS.Property
import HandS.Wide
import HandS.WideBits
import HandS.Exc
import HandS.Defaults
import HandS.ExcOwn
import HandS.TryOnly
import HandS.WordsExc
import HandS.ExcIs
import HandS.MakeKwOnly
import HandS.RaiseMore
import HandS.Style
import HandS.Zip
import HandS.Iter
import HandS.Star
import HandS.Walk
import HandS.More
import HandS.SortInts
import HandS.HotCalls
import HandS.Head0
import HandS.Head1
import HandS.Head2
import HandS.HeadEnd
import HandS.HeadHook1
import HandS.HeadHook2
import HandS.HeadHook3
import HandS.HeadNt
import KE.KStateDown
import PySem.Challenge.RW_thaumatrope_k06_bits_refused
set_option Elab.async false
set_option linter.all false
set_option maxRecDepth 100000
set_option maxHeartbeats 8000000
namespace Vx
open PySem PySem.Spec PyProof.Rows L2

/-! ### heaps -/
def SameX (m : Addr) (H H' : Hp) : Prop := ∀ b o, H b = some o → b ≠ m → H' b = some o
theorem gen_new {H H' : Hp} {p : Addr} {o : HO} (n : H p = none) (h : upd H p o = H') : Same H H' ∧ H' p = some o := by
  subst h
  exact ⟨fun b u e => by rw [upd_ne (ne_of_none e n)]; exact e, upd_same⟩
theorem gen_mut {H H' : Hp} {m : Addr} {o : HO} (h : upd H m o = H') : SameX m H H' ∧ H' m = some o := by
  subst h
  exact ⟨fun b u e n => by rw [upd_ne n]; exact e, upd_same⟩
theorem same_mut {H0 H H' : Hp} {m : Addr} (B : Same H0 H) (x : SameX m H H') (f : H0 m = none) : Same H0 H' :=
  fun b o e => x b o (B b o e) (ne_of_none e f)
theorem map_get {xs : List Int} {i : Nat} {x : V} (h : (xs.map V.int)[i]? = some x) : ∃ o, xs[i]? = some o ∧ x = .int o := by
  rw [List.getElem?_map] at h
  cases e : xs[i]? with
  | none => rw [e] at h; cases h
  | some z => rw [e] at h; exact ⟨z, rfl, (Option.some.inj h).symm⟩
theorem get_len {α : Type} {xs : List α} {i : Nat} {x : α} (h : xs[i]? = some x) : i < xs.length := (List.getElem?_eq_some_iff.mp h).1
theorem eq_int {Q : VK} {H : Hp} {a b : Int} (h : Q (.int a) H) (e : a = b) : Q (.int b) H := e ▸ h
theorem eq_bl {Q : VK} {H : Hp} {a b : Bool} (h : Q (.bl a) H) (e : a = b) : Q (.bl b) H := e ▸ h
theorem small {n : Nat} (h : n ≤ 1000000) : n < sizeLine := Nat.lt_of_le_of_lt h (by decide)
theorem smallE {n : Nat} (h : n ≤ 1000000) : n ≤ sizeLine := Nat.le_of_lt (small h)
theorem snoc_int {xs : List Int} {y : Int} {H : Hp} {p : Addr} (h : H p = some (.lst (xs.map V.int ++ [V.int y]))) : H p = some (.lst ((xs ++ [y]).map V.int)) := by
  rw [List.map_append]; exact h
theorem cat_int {xs ys : List Int} {H : Hp} {p : Addr} (h : H p = some (.lst (xs.map V.int ++ ys.map V.int))) : H p = some (.lst ((xs ++ ys).map V.int)) := by
  rw [List.map_append]; exact h
theorem cast_lst {xs ys : List Int} {H : Hp} {p : Addr} (h : H p = some (.lst (xs.map V.int))) (e : xs = ys) : H p = some (.lst (ys.map V.int)) := e ▸ h

/-! ### tests -/
theorem dT {p : Prop} [Decidable p] (h : decide p = true) : p := of_decide_eq_true h
theorem dF {p : Prop} [Decidable p] (h : ¬ decide p = true) : ¬ p := fun x => h (decide_eq_true x)
theorem iteD {p A B : Prop} [Decidable p] (h1 : p → A) (h2 : ¬ p → B) : if decide p = true then A else B := by
  by_cases h : p
  · rw [if_pos (decide_eq_true h)]; exact h1 h
  · rw [if_neg (fun x => h (of_decide_eq_true x))]; exact h2 h
theorem iteN {p A B : Prop} [Decidable p] (h1 : ¬ p → A) (h2 : p → B) : if (!decide p) = true then A else B := by
  by_cases h : p
  · rw [decide_eq_true h]; exact iteF (h2 h)
  · rw [decide_eq_false h]; exact iteT (h1 h)
theorem iteB {b : Bool} {A B : Prop} (h1 : b = true → A) (h2 : b = false → B) : if b = true then A else B := by
  cases b with
  | true => exact iteT (h1 rfl)
  | false => exact iteF (h2 rfl)
theorem iteBN {b : Bool} {A B : Prop} (h1 : b = false → A) (h2 : b = true → B) : if (!b) = true then A else B := by
  cases b with
  | true => exact iteF (h2 rfl)
  | false => exact iteT (h1 rfl)
theorem iteDT {p A B : Prop} [Decidable p] (h : p) (k : A) : if decide p = true then A else B := by
  rw [if_pos (decide_eq_true h)]; exact k
theorem iteDF {p A B : Prop} [Decidable p] (h : ¬ p) (k : B) : if decide p = true then A else B := by
  rw [if_neg (fun x => h (of_decide_eq_true x))]; exact k
theorem iteNT {p A B : Prop} [Decidable p] (h : ¬ p) (k : A) : if (!decide p) = true then A else B := iteN (fun _ => k) (fun x => (h x).elim)
theorem iteNF {p A B : Prop} [Decidable p] (h : p) (k : B) : if (!decide p) = true then A else B := iteN (fun x => (x h).elim) (fun _ => k)

/-! ### equality of lists of ints -/
theorem eqvAll_ints : ∀ xs ys : List Int, PyData.eqvAll (xs.map PyData.int) (ys.map PyData.int) = decide (xs = ys)
  | [], [] => by simp [PyData.eqvAll]
  | [], y :: ys => by simp [PyData.eqvAll]
  | x :: xs, [] => by simp [PyData.eqvAll]
  | x :: xs, y :: ys => by
    have ih := eqvAll_ints xs ys
    simp only [List.map_cons, PyData.eqvAll, PyData.eqv, ih]
    by_cases h : x = y <;> by_cases h2 : xs = ys <;> simp [h, h2]
end Vx

namespace Vx
open PySem PySem.Spec PyProof.Rows L2
section
variable {X : Cx}
def rEqLi (K : PySem.W.Frag) : R2 := fun x y H Q => ∃ (a b : Addr) (xs ys : List Int), x = .ref a ∧ y = .ref b ∧ SqL K H a (xs.map V.int) ∧ SqL K H b (ys.map V.int) ∧ Q (.bl (decide (xs = ys))) H
def rNeLi (K : PySem.W.Frag) : R2 := fun x y H Q => ∃ (a b : Addr) (xs ys : List Int), x = .ref a ∧ y = .ref b ∧ SqL K H a (xs.map V.int) ∧ SqL K H b (ys.map V.int) ∧ Q (.bl (!decide (xs = ys))) H
theorem dpAll_ints {K : PySem.W.Frag} {H : Hp} : ∀ xs : List Int, DpAll K H (xs.map V.int) (xs.map PyData.int)
  | [] => .nil
  | x :: xs => .cons (.int x) (dpAll_ints xs)
theorem dp_ints {K : PySem.W.Frag} {H : Hp} {a : Addr} {xs : List Int} (h : SqL K H a (xs.map V.int)) : Dp K H (.ref a) (.list (xs.map PyData.int)) := .lst h (dpAll_ints xs)
theorem canLay_ints : ∀ xs : List Int, PyData.canLayAll0 (xs.map PyData.int) = true
  | [] => by simp [PyData.canLayAll0]
  | x :: xs => by simp [PyData.canLayAll0, PyData.canLay0, canLay_ints xs]
theorem depth_ints : ∀ xs : List Int, PyData.depthAll (xs.map PyData.int) = 0
  | [] => by simp [PyData.depthAll]
  | x :: xs => by simp [PyData.depthAll, PyData.depth, depth_ints xs]
theorem shaped_ints (xs : List Int) : SeqAt.shaped (.list (xs.map PyData.int)) = true := by
  unfold SeqAt.shaped
  simp [PyData.canLay0, canLay_ints, PyData.depth, depth_ints]
theorem eqv_ints (xs ys : List Int) : PyData.eqv (.list (xs.map PyData.int)) (.list (ys.map PyData.int)) = decide (xs = ys) := by
  simp only [PyData.eqv]
  exact eqvAll_ints xs ys
theorem op_eqLi (hu : X.A.units + 64 < cLine) : OpR X (compareOp .Eq) (rEqLi X.K) := by
  intro pins s σ H x y v u Q I rx ry h
  obtain ⟨a, b, xs, ys, rfl, rfl, h1, h2, q⟩ := h
  exact op_eqD hu pins s σ H _ _ v u Q I rx ry ⟨_, _, dp_ints h1, dp_ints h2, shaped_ints xs, shaped_ints ys, by rw [eqv_ints]; exact q⟩
theorem op_neLi (hu : X.A.units + 64 < cLine) : OpR X (compareOp .NotEq) (rNeLi X.K) := by
  intro pins s σ H x y v u Q I rx ry h
  obtain ⟨a, b, xs, ys, rfl, rfl, h1, h2, q⟩ := h
  exact op_neD hu pins s σ H _ _ v u Q I rx ry ⟨_, _, dp_ints h1, dp_ints h2, shaped_ints xs, shaped_ints ys, by rw [eqv_ints]; exact q⟩

/-! ### items, slices, repetition, comprehensions of ints -/
def itI (xs : List Int) (i : Int) : Int := (atI xs i).getD 0
theorem atI_int {xs : List Int} {i : Int} (h : -(xs.length : Int) ≤ i ∧ i < xs.length) : atI (xs.map V.int) i = some (.int (itI xs i)) := by
  unfold itI atI
  rw [List.length_map]
  have hk : ∃ j, ixN xs.length i = some j ∧ j < xs.length := by
    unfold ixN
    by_cases h0 : 0 ≤ i
    · refine ⟨i.toNat, ?_, by omega⟩
      rw [if_pos h0, if_pos h.2]
    · refine ⟨(i + xs.length).toNat, ?_, by omega⟩
      rw [if_neg h0, if_pos h.1]
  obtain ⟨j, e, hj⟩ := hk
  rw [e]
  show (xs.map V.int)[j]? = some (V.int ((xs[j]?).getD 0))
  rw [List.getElem?_map, List.getElem?_eq_getElem hj] <;> rfl
def cutI (xs : List Int) (lo hi : Option Int) : List Int := (xs.drop (HT.sIx xs.length 0 lo)).take (HT.sIx xs.length xs.length hi - HT.sIx xs.length 0 lo)
theorem cut_int {xs : List Int} {lo hi : Option Int} {H : Hp} {p : Addr} (h : H p = some (.lst (cutV (xs.map V.int) lo hi))) : H p = some (.lst ((cutI xs lo hi).map V.int)) := by
  rw [h]
  unfold cutV cutI
  rw [List.length_map, List.map_take, List.map_drop]
def rep (xs : List Int) (k : Int) : List Int := (List.replicate k.toNat xs).flatten
theorem rep_int {xs : List Int} {k : Int} {H : Hp} {p : Addr} (h : H p = some (.lst (List.replicate k.toNat (xs.map V.int)).flatten)) : H p = some (.lst ((rep xs k).map V.int)) := by
  rw [h]
  unfold rep
  rw [List.map_flatten, List.map_replicate]
theorem divW_lit {i j : Int} (h : 0 < j) (h2 : j.natAbs.log2 < 9000) : CDivW i j := ⟨h, h2⟩
theorem divW_small {i j : Int} (h : 0 < j) (h2 : j < 2 ^ 128) : CDivW i j := wide_div h (show j.natAbs < 2 ^ 128 by omega) (by decide) (by decide)
theorem comp_list {xs : List Int} {i : Nat} {x y : Int} {f : Int → Int} {H : Hp} {D : Addr} (hi : xs[i]? = some x) (h : H D = some (.lst (((xs.take i).map f).map V.int ++ [V.int y]))) (e : f x = y) : H D = some (.lst (((xs.take (i + 1)).map f).map V.int)) := by
  rw [h, ← e, List.take_succ, hi, List.map_append, List.map_append] <;> rfl
theorem comp_done {xs : List Int} {f : Int → Int} {H : Hp} {D : Addr} (h : H D = some (.lst (((xs.take (xs.map V.int).length).map f).map V.int))) : H D = some (.lst ((xs.map f).map V.int)) := by
  rw [List.length_map, List.take_length] at h
  exact h
theorem comp_range {i : Nat} {y : Int} {f : Nat → Int} {H : Hp} {D : Addr} (h : H D = some (.lst (((List.range i).map f).map V.int ++ [V.int y]))) (e : f i = y) : H D = some (.lst (((List.range (i + 1)).map f).map V.int)) := by
  rw [h, ← e, List.range_succ, List.map_append, List.map_append] <;> rfl
theorem iteBT {b : Bool} {A B : Prop} (h : b = true) (k : A) : if b = true then A else B := by rw [if_pos h]; exact k
theorem iteBF {b : Bool} {A B : Prop} (h : b = false) (k : B) : if b = true then A else B := by rw [if_neg (by rw [h]; decide)]; exact k
theorem take_succ_get {α : Type} {xs : List α} {i : Nat} {x : α} (hi : xs[i]? = some x) : xs.take (i + 1) = xs.take i ++ [x] := by rw [List.take_succ, hi] <;> rfl
end

/-! ### defs of the module, as callers see them -/
section
variable {P : Program} {w : World} {K : PySem.W.Frag} {mg : Str → Option Value} {base : Heap}
structure DefIn (K : PySem.W.Frag) (mg : Str → Option Value) (x : Str) (st : Stmt) (ps : List Str) : Prop where
  ex : ∃ (f : Addr) (fd : FuncData), Fun K x x st f fd ∧ mg x = some (.ref f) ∧ Binds K fd ps []
structure Cal (P : Program) (w : World) (K : PySem.W.Frag) (mg : Str → Option Value) (base : Heap) (k : Nat) (x : Str) (sp : Sp) : Prop where
  ex : ∃ (f : Addr) (fd : FuncData) (ps : List Str), FnOk P w K mg base CX0 k f fd ps sp ∧ mg x = some (.ref f) ∧ PySem.W.keepIn K (.ref f) = true ∧ Binds K fd ps []
theorem DefIn.ok {x : Str} {st : Stmt} {N ps : List Str} {k : Nat} {sp : Sp} (D : DefIn K mg x st ps) (S : FnScope N ps (defScope st)) (len : ∀ vs H Q E, sp vs H Q E → vs.length = ps.length)
    (hbody : ∀ (f : Addr) (cdv : Value) (A : Around) (outer : List Env) (s : Shared) (H : Hp) (vs : List V) (Q : VK) (E : XK), Room k (A.deeper (envOfC x (defScope st) s.heap.objs.size f cdv)) → sp vs H Q E →
      ∃ t, PSs (cxOf CX0 P w K mg base N x (defScope st) f cdv A outer s H E).nox (defBody st) t ∧ t { nx := fun _ H' => Q .non H', rt := Q } (start N vs) H) : Cal P w K mg base (k + 1) x sp := by
  obtain ⟨f, fd, F, hm, b⟩ := D.ex
  exact ⟨f, fd, ps, F.ok S len (fun cdv A outer s H vs Q E hr h => hbody f cdv A outer s H vs Q E hr h), hm, F.kp, b⟩
end
section
variable {X : Cx} {k j : Nat} {x : Str} {sp : Sp} {p pos : Pos} {e : Expr} {es : List Expr} {t : TA}
theorem vx_call (c : Cal X.prog X.w X.K X.mg X.base k x sp) (hr : Room j X.A) (hk : k ≤ j) (hg : Gl X x) (ha : PA X (e :: es) t)
    (hdb : (x == ("__debug__" : Str)) = false := by decide) (he : starEach (e :: es) X.env = (false, eval e X.env) :: starEach es X.env := by rfl) (hpl : (backTo pos (starEach es X.env)).any (·.1) = false := by rfl) :
    PE X (.Call (.Name x p) (e :: es) [] pos) (tCall sp [] E0 t) := by
  obtain ⟨f, fd, ps, F, hm, kp, b⟩ := c.ex
  exact pe_call F (hr.mono hk) hg hm kp b .nil pass0 ha hdb he hpl
end
end Vx

namespace Vx
open PySem PySem.Spec PyProof.Rows L2
section
variable {σ : L2.St} {H : Hp} {ta tb : TE} {x y z : V} {t : TT}
theorem vv_and {a b : Bool} (h1 : Val ta σ H (.bl a)) (h2 : Val tb σ H (.bl b)) : Val (tAndV ta tb) σ H (.bl (a && b)) := fun Q q => h1 _ ⟨a, rfl, by
  cases a with
  | true => exact iteT (h2 Q q)
  | false => exact iteF q⟩
theorem vv_or {a b : Bool} (h1 : Val ta σ H (.bl a)) (h2 : Val tb σ H (.bl b)) : Val (tOrV ta tb) σ H (.bl (a || b)) := fun Q q => h1 _ ⟨a, rfl, by
  cases a with
  | true => exact iteT q
  | false => exact iteF (h2 Q q)⟩
theorem vv_not {a : Bool} (h1 : Val ta σ H (.bl a)) : Val (tNotV ta) σ H (.bl (!a)) := fun Q q => h1 _ ⟨a, rfl, q⟩
theorem vv_un {r : V → Hp → VK → Prop} (ha : Val ta σ H x) (hr : ∀ Q : VK, Q z H → r x H Q) : Val (tUn r ta) σ H z := fun Q q => ha _ (hr Q q)
theorem vv_cmp {p : Int → Int → Bool} (ha : Val ta σ H x) (hb : Val tb σ H y) (hr : ∀ Q : VK, Q z H → ∃ i j, x = .int i ∧ y = .int j ∧ Q (.bl (p i j)) H) : Val (tCmp p ta tb) σ H z := fun Q q => ha _ (hb _ (hr Q q))
theorem vv_call1 {r : List V → Hp → VK → Prop} (ha : Val ta σ H x) (hr : ∀ Q : VK, Q z H → r [x] H Q) : Val (tCB r (tCons ta tNil)) σ H z := fun Q q => ha _ (hr Q q)
theorem vt_cmp {b : Bool} (h : Val ta σ H (.bl b)) : Ans (tB ta) σ H b := fun Q q => h _ ⟨b, rfl, q⟩
theorem vt_val {b : Bool} (h : Val ta σ H (.bl b)) : Ans (tB ta) σ H b := fun Q q => h _ ⟨b, rfl, q⟩
theorem vt_int {i : Int} {K : PySem.W.Frag} (h : Val ta σ H (.int i)) : Ans (fun σ H Q => ta σ H fun x H' => ∃ k, TruV K x H' k ∧ Q k H') σ H (i != 0) := fun Q q => h _ ⟨_, rfl, q⟩
theorem vv_if {p : Prop} [Decidable p] {a b : Int} (ht : Ans t σ H (decide p)) (hx : Val ta σ H (.int a)) (hy : Val tb σ H (.int b)) : Val (tIf t ta tb) σ H (.int (if p then a else b)) := fun Q q => ht _ (by
  by_cases h : p
  · rw [if_pos h] at q; exact iteDT h (hx Q q)
  · rw [if_neg h] at q; exact iteDF h (hy Q q))
theorem vv_ifb {c : Bool} {a b : Int} (ht : Ans t σ H c) (hx : Val ta σ H (.int a)) (hy : Val tb σ H (.int b)) : Val (tIf t ta tb) σ H (.int (if c = true then a else b)) := fun Q q => ht _ (by
  cases c with
  | true => exact iteT (hx Q q)
  | false => exact iteF (hy Q q))
end
end Vx

namespace Vx
open PySem PySem.Spec PyProof.Rows L2
def rLenLi (K : PySem.W.Frag) : List V → Hp → VK → Prop := fun xs H Q => ∃ (p : Addr) (ns : List Int), xs = [.ref p] ∧ SqL K H p (ns.map V.int) ∧ Q (.int (ns.length : Int)) H
theorem call_lenLi {X : Cx} : CallR X (.builtin "len") (rLenLi X.K) := by
  intro pins s σ H xs us Q I r h
  obtain ⟨p, ns, rfl, hs, q⟩ := h
  exact call_len_seq pins s σ H _ us Q I r ⟨p, _, rfl, Or.inl hs, by rw [List.length_map]; exact q⟩
end Vx

namespace Vx
open PySem PySem.Spec PyProof.Rows L2
section
variable {X : Cx} {K : PySem.W.Frag}
theorem ix_listK (hK : X.K = K := by rfl) : IxR X (rIxL K) := hK ▸ ix_list
theorem sl_listK (hK : X.K = K := by rfl) : SlR X (rSlL K) := hK ▸ sl_list
theorem call_lenLiK (hK : X.K = K := by rfl) : CallR X (.builtin "len") (rLenLi K) := hK ▸ call_lenLi
theorem op_eqLiK (hu : X.A.units + 64 < cLine) (hK : X.K = K := by rfl) : OpR X (compareOp .Eq) (rEqLi K) := hK ▸ op_eqLi hu
theorem op_neLiK (hu : X.A.units + 64 < cLine) (hK : X.K = K := by rfl) : OpR X (compareOp .NotEq) (rNeLi K) := hK ▸ op_neLi hu
theorem pi_listK {tg l : Expr} {tl : TE} (hl : PE X l tl) (hK : X.K = K := by rfl) : PI X tg l (iList K tl) := hK ▸ pi_list hl
theorem cr_sumK (hc : X.calm = true) (hK : X.K = K := by rfl) : CallR X (.builtin "sum") (rSum K) := hK ▸ cr_sum hc
theorem cr_maxK (hc : X.calm = true) (hK : X.K = K := by rfl) : CallR X (.builtin "max") (rMax K) := hK ▸ cr_max hc
theorem cr_minK (hc : X.calm = true) (hK : X.K = K := by rfl) : CallR X (.builtin "min") (rMin K) := hK ▸ cr_min hc
end
end Vx

namespace Vx
open PySem PySem.Spec PyProof.Rows L2
theorem tyes_go {σ : L2.St} {H : Hp} {f g : Hp → Prop} (h : f H) : tYes σ H (fun b H3 => if b = true then f H3 else g H3) := by
  show if true = true then f H else g H
  exact iteT h
end Vx

/-! # second part: data of any depth, the stable heap G, the owned addresses O -/
namespace Vx
open PySem PySem.Spec PyProof.Rows L2
mutual
inductive Rp (H : Hp) : V → PyData → Prop
  | non : Rp H .non .none
  | bl (b : Bool) : Rp H (.bl b) (.bool b)
  | int (i : Int) : Rp H (.int i) (.int i)
  | str (x : Str) : Rp H (.str x) (.str x)
  | lst {a : Addr} {xs : List V} {ds : List PyData} : H a = some (.lst xs) → RpAll H xs ds → Rp H (.ref a) (.list ds)
  | tup {a : Addr} {xs : List V} {ds : List PyData} : H a = some (.tup xs) → RpAll H xs ds → Rp H (.ref a) (.tuple ds)
inductive RpAll (H : Hp) : List V → List PyData → Prop
  | nil : RpAll H [] []
  | cons {v : V} {vs : List V} {d : PyData} {ds : List PyData} : Rp H v d → RpAll H vs ds → RpAll H (v :: vs) (d :: ds)
end
mutual
theorem Rp.mono {H H' : Hp} (e : Same H H') : ∀ {v : V} {d : PyData}, Rp H v d → Rp H' v d
  | _, _, .non => .non
  | _, _, .bl b => .bl b
  | _, _, .int i => .int i
  | _, _, .str x => .str x
  | _, _, .lst h r => .lst (e _ _ h) (RpAll.mono e r)
  | _, _, .tup h r => .tup (e _ _ h) (RpAll.mono e r)
theorem RpAll.mono {H H' : Hp} (e : Same H H') : ∀ {vs : List V} {ds : List PyData}, RpAll H vs ds → RpAll H' vs ds
  | _, _, .nil => .nil
  | _, _, .cons a b => .cons (Rp.mono e a) (RpAll.mono e b)
end
mutual
theorem Rp.dp {K : PySem.W.Frag} {H : Hp} : ∀ {v : V} {d : PyData}, Rp H v d → Dp K H v d
  | _, _, .non => .non
  | _, _, .bl b => .bl b
  | _, _, .int i => .int i
  | _, _, .str x => .str x
  | _, _, .lst h r => .lst (SqL.of h) (RpAll.dp r)
  | _, _, .tup h r => .tup (SqT.of h) (RpAll.dp r)
theorem RpAll.dp {K : PySem.W.Frag} {H : Hp} : ∀ {vs : List V} {ds : List PyData}, RpAll H vs ds → DpAll K H vs ds
  | _, _, .nil => .nil
  | _, _, .cons a b => .cons (Rp.dp a) (RpAll.dp b)
end
theorem RpAll.append {H : Hp} : ∀ {xs ys : List V} {ds es : List PyData}, RpAll H xs ds → RpAll H ys es → RpAll H (xs ++ ys) (ds ++ es)
  | _, _, _, _, .nil, s => s
  | _, _, _, _, .cons r t, s => .cons r (RpAll.append t s)
theorem RpAll.ints {H : Hp} : ∀ xs : List Int, RpAll H (xs.map V.int) (xs.map PyData.int)
  | [] => .nil
  | x :: xs => .cons (.int x) (RpAll.ints xs)
theorem RpAll.bls {H : Hp} : ∀ xs : List Bool, RpAll H (xs.map V.bl) (xs.map PyData.bool)
  | [] => .nil
  | x :: xs => .cons (.bl x) (RpAll.bls xs)
theorem RpAll.one {H : Hp} {v : V} {d : PyData} (h : Rp H v d) : RpAll H [v] [d] := .cons h .nil
theorem RpAll.len {H : Hp} : ∀ {vs : List V} {ds : List PyData}, RpAll H vs ds → vs.length = ds.length
  | _, _, .nil => rfl
  | _, _, .cons _ t => by rw [List.length_cons, List.length_cons, RpAll.len t]
theorem RpAll.at {H : Hp} : ∀ {vs : List V} {ds : List PyData} {i : Nat} {v : V}, RpAll H vs ds → vs[i]? = some v → ∃ d, ds[i]? = some d ∧ Rp H v d
  | _, _, _, _, .nil, h => by simp at h
  | _, _, 0, _, .cons r _, h => by
    simp at h
    subst h
    exact ⟨_, rfl, r⟩
  | _, _, i + 1, _, .cons _ t, h => by
    obtain ⟨d, h1, h2⟩ := RpAll.at (i := i) t (by simpa using h)
    exact ⟨d, by simpa using h1, h2⟩
theorem RpAll.at' {H : Hp} : ∀ {vs : List V} {ds : List PyData} {i : Nat} {d : PyData}, RpAll H vs ds → ds[i]? = some d → ∃ v, vs[i]? = some v ∧ Rp H v d
  | _, _, _, _, .nil, h => by simp at h
  | _, _, 0, _, .cons r _, h => by
    simp at h
    subst h
    exact ⟨_, rfl, r⟩
  | _, _, i + 1, _, .cons _ t, h => by
    obtain ⟨v, h1, h2⟩ := RpAll.at' (i := i) t (by simpa using h)
    exact ⟨v, by simpa using h1, h2⟩
theorem RpAll.take {H : Hp} : ∀ (n : Nat) {vs : List V} {ds : List PyData}, RpAll H vs ds → RpAll H (vs.take n) (ds.take n)
  | 0, _, _, _ => by simpa using RpAll.nil
  | n + 1, _, _, .nil => by simpa using RpAll.nil
  | n + 1, _, _, .cons r t => .cons r (RpAll.take n t)
theorem RpAll.drop {H : Hp} : ∀ (n : Nat) {vs : List V} {ds : List PyData}, RpAll H vs ds → RpAll H (vs.drop n) (ds.drop n)
  | 0, _, _, r => r
  | n + 1, _, _, .nil => by simpa using RpAll.nil
  | n + 1, _, _, .cons r t => RpAll.drop n t
theorem RpAll.set {H : Hp} {v : V} {d : PyData} (h : Rp H v d) : ∀ (n : Nat) {vs : List V} {ds : List PyData}, RpAll H vs ds → RpAll H (vs.set n v) (ds.set n d)
  | _, _, _, .nil => .nil
  | 0, _, _, .cons _ t => .cons h t
  | n + 1, _, _, .cons r t => .cons r (RpAll.set h n t)
theorem RpAll.rep {H : Hp} {vs : List V} {ds : List PyData} (h : RpAll H vs ds) : ∀ n : Nat, RpAll H (List.replicate n vs).flatten (List.replicate n ds).flatten
  | 0 => by simpa using RpAll.nil
  | n + 1 => by
    rw [List.replicate_succ, List.flatten_cons, List.replicate_succ, List.flatten_cons]
    exact RpAll.append h (RpAll.rep h n)
theorem RpAll.get {α : Type} {f : α → PyData} {H : Hp} {vs : List V} {xs : List α} {i : Nat} {v : V} (r : RpAll H vs (xs.map f)) (h : vs[i]? = some v) : ∃ x, xs[i]? = some x ∧ Rp H v (f x) := by
  obtain ⟨d, h1, h2⟩ := RpAll.at r h
  rw [List.getElem?_map] at h1
  cases e : xs[i]? with
  | none => rw [e] at h1; cases h1
  | some x =>
    rw [e] at h1
    have : f x = d := Option.some.inj h1
    exact ⟨x, rfl, this ▸ h2⟩
/-- the item at an index, data -/
theorem RpAll.ix {α : Type} {f : α → PyData} {H : Hp} {vs : List V} {xs : List α} {k : Int} (r : RpAll H vs (xs.map f)) (h : -(xs.length : Int) ≤ k ∧ k < xs.length) : ∃ v x, atI vs k = some v ∧ atI xs k = some x ∧ Rp H v (f x) := by
  have hl : vs.length = xs.length := by rw [r.len, List.length_map]
  have hk : ∃ j, ixN xs.length k = some j ∧ j < xs.length := by
    unfold ixN
    by_cases h0 : 0 ≤ k
    · refine ⟨k.toNat, ?_, by omega⟩
      rw [if_pos h0, if_pos h.2]
    · refine ⟨(k + xs.length).toNat, ?_, by omega⟩
      rw [if_neg h0, if_pos h.1]
  obtain ⟨j, e, hj⟩ := hk
  have hx := List.getElem?_eq_getElem hj
  obtain ⟨v, h1, h2⟩ := RpAll.at' (i := j) (d := f xs[j]) r (by rw [List.getElem?_map, hx] <;> rfl)
  refine ⟨v, xs[j], ?_, ?_, h2⟩
  · unfold atI
    rw [hl, e]
    exact h1
  · unfold atI
    rw [e]
    exact hx

/-! ### types -/
def encL {α : Type} (f : α → PyData) (xs : List α) : PyData := .list (xs.map f)
def encT2 {α β : Type} (f : α → PyData) (g : β → PyData) (p : α × β) : PyData := .tuple [f p.1, g p.2]
def encT3 {α β γ : Type} (f : α → PyData) (g : β → PyData) (h : γ → PyData) (p : α × β × γ) : PyData := .tuple [f p.1, g p.2.1, h p.2.2]
def encT4 {α β γ δ : Type} (f : α → PyData) (g : β → PyData) (h : γ → PyData) (i : δ → PyData) (p : α × β × γ × δ) : PyData := .tuple [f p.1, g p.2.1, h p.2.2.1, i p.2.2.2]
structure EncOk {α : Type} [DecidableEq α] (n : Nat) (f : α → PyData) : Prop where
  lay : ∀ x, PyData.canLay0 (f x) = true
  dep : ∀ x, PyData.depth (f x) ≤ n
  eqv : ∀ x y, PyData.eqv (f x) (f y) = decide (x = y)
theorem encOk_int : EncOk 0 PyData.int := ⟨fun _ => by simp [PyData.canLay0], fun _ => by simp [PyData.depth], fun x y => by simp [PyData.eqv]; by_cases h : x = y <;> simp [h]⟩
theorem encOk_bool : EncOk 0 PyData.bool := ⟨fun _ => by simp [PyData.canLay0], fun _ => by simp [PyData.depth], fun x y => by cases x <;> cases y <;> simp [PyData.eqv]⟩
section
variable {α β γ δ : Type} [DecidableEq α] [DecidableEq β] [DecidableEq γ] [DecidableEq δ] {n m l o : Nat} {f : α → PyData} {g : β → PyData} {h : γ → PyData} {i : δ → PyData}
theorem lay_map (ok : EncOk n f) : ∀ xs : List α, PyData.canLayAll0 (xs.map f) = true
  | [] => by simp [PyData.canLayAll0]
  | x :: xs => by simp [PyData.canLayAll0, ok.lay x, lay_map ok xs]
theorem dep_map (ok : EncOk n f) : ∀ xs : List α, PyData.depthAll (xs.map f) ≤ n
  | [] => by simp [PyData.depthAll]
  | x :: xs => by
    have h1 := ok.dep x
    have h2 := dep_map ok xs
    simp only [List.map_cons, PyData.depthAll]
    omega
theorem eqv_map (ok : EncOk n f) : ∀ xs ys : List α, PyData.eqvAll (xs.map f) (ys.map f) = decide (xs = ys)
  | [], [] => by simp [PyData.eqvAll]
  | [], y :: ys => by simp [PyData.eqvAll]
  | x :: xs, [] => by simp [PyData.eqvAll]
  | x :: xs, y :: ys => by
    have ih := eqv_map ok xs ys
    simp only [List.map_cons, PyData.eqvAll, ok.eqv, ih]
    by_cases h : x = y <;> by_cases h2 : xs = ys <;> simp [h, h2]
theorem encOk_L (ok : EncOk n f) : EncOk (n + 1) (encL f) := ⟨fun xs => by simp [encL, PyData.canLay0, lay_map ok], fun xs => by
  have := dep_map ok xs
  simp only [encL, PyData.depth]
  omega, fun xs ys => by simp only [encL, PyData.eqv]; exact eqv_map ok xs ys⟩
theorem encOk_T2 (ok : EncOk n f) (ok2 : EncOk m g) : EncOk (max n m + 1) (encT2 f g) := ⟨fun x => by simp [encT2, PyData.canLay0, PyData.canLayAll0, ok.lay, ok2.lay], fun x => by
  have h1 := ok.dep x.1
  have h2 := ok2.dep x.2
  simp only [encT2, PyData.depth, PyData.depthAll]
  omega, fun x y => by
  obtain ⟨a, b⟩ := x
  obtain ⟨c, d⟩ := y
  simp only [encT2, PyData.eqv, PyData.eqvAll, ok.eqv, ok2.eqv, Prod.mk.injEq]
  by_cases h1 : a = c <;> by_cases h2 : b = d <;> simp [h1, h2]⟩
theorem encOk_T3 (ok : EncOk n f) (ok2 : EncOk m g) (ok3 : EncOk l h) : EncOk (max n (max m l) + 1) (encT3 f g h) := ⟨fun x => by simp [encT3, PyData.canLay0, PyData.canLayAll0, ok.lay, ok2.lay, ok3.lay], fun x => by
  have h1 := ok.dep x.1
  have h2 := ok2.dep x.2.1
  have h3 := ok3.dep x.2.2
  simp only [encT3, PyData.depth, PyData.depthAll]
  omega, fun x y => by
  obtain ⟨a, b, e⟩ := x
  obtain ⟨c, d, e'⟩ := y
  simp only [encT3, PyData.eqv, PyData.eqvAll, ok.eqv, ok2.eqv, ok3.eqv, Prod.mk.injEq]
  by_cases h1 : a = c <;> by_cases h2 : b = d <;> by_cases h3 : e = e' <;> simp [h1, h2, h3]⟩
theorem encOk_T4 (ok : EncOk n f) (ok2 : EncOk m g) (ok3 : EncOk l h) (ok4 : EncOk o i) : EncOk (max n (max m (max l o)) + 1) (encT4 f g h i) := ⟨fun x => by simp [encT4, PyData.canLay0, PyData.canLayAll0, ok.lay, ok2.lay, ok3.lay, ok4.lay], fun x => by
  have h1 := ok.dep x.1
  have h2 := ok2.dep x.2.1
  have h3 := ok3.dep x.2.2.1
  have h4 := ok4.dep x.2.2.2
  simp only [encT4, PyData.depth, PyData.depthAll]
  omega, fun x y => by
  obtain ⟨a, b, e, u⟩ := x
  obtain ⟨c, d, e', u'⟩ := y
  simp only [encT4, PyData.eqv, PyData.eqvAll, ok.eqv, ok2.eqv, ok3.eqv, ok4.eqv, Prod.mk.injEq]
  by_cases h1 : a = c <;> by_cases h2 : b = d <;> by_cases h3 : e = e' <;> by_cases h4 : u = u' <;> simp [h1, h2, h3, h4]⟩
end
section
variable {X : Cx} {α : Type} [DecidableEq α] {n : Nat} {f : α → PyData}
def rEqT (f : α → PyData) : R2 := fun x y H Q => ∃ (a b : α), Rp H x (f a) ∧ Rp H y (f b) ∧ Q (.bl (decide (a = b))) H
def rNeT (f : α → PyData) : R2 := fun x y H Q => ∃ (a b : α), Rp H x (f a) ∧ Rp H y (f b) ∧ Q (.bl (!decide (a = b))) H
theorem shaped_of (ok : EncOk n f) (hn : n ≤ 64) (a : α) : SeqAt.shaped (f a) = true := by
  unfold SeqAt.shaped
  have h := ok.dep a
  rw [ok.lay]
  simp
  omega
theorem op_eqT (ok : EncOk n f) (hu : X.A.units + 64 < cLine) (hn : n ≤ 64 := by decide) : OpR X (compareOp .Eq) (rEqT f) := by
  intro pins s σ H x y v u Q I rx ry h
  obtain ⟨a, b, h1, h2, q⟩ := h
  exact op_eqD hu pins s σ H _ _ v u Q I rx ry ⟨_, _, h1.dp, h2.dp, shaped_of ok hn a, shaped_of ok hn b, by rw [ok.eqv]; exact q⟩
theorem op_neT (ok : EncOk n f) (hu : X.A.units + 64 < cLine) (hn : n ≤ 64 := by decide) : OpR X (compareOp .NotEq) (rNeT f) := by
  intro pins s σ H x y v u Q I rx ry h
  obtain ⟨a, b, h1, h2, q⟩ := h
  exact op_neD hu pins s σ H _ _ v u Q I rx ry ⟨_, _, h1.dp, h2.dp, shaped_of ok hn a, shaped_of ok hn b, by rw [ok.eqv]; exact q⟩
end
section
variable {H : Hp} {v : V} {α β γ δ : Type} {f : α → PyData} {g : β → PyData} {h : γ → PyData} {i : δ → PyData}
theorem rp_int {x : Int} (r : Rp H v (.int x)) : v = .int x := by cases r; rfl
theorem rp_bool {x : Bool} (r : Rp H v (.bool x)) : v = .bl x := by cases r; rfl
theorem rp_str {x : Str} (r : Rp H v (.str x)) : v = .str x := by cases r; rfl
theorem rp_list {xs : List α} (r : Rp H v (encL f xs)) : ∃ a vs, v = .ref a ∧ H a = some (.lst vs) ∧ RpAll H vs (xs.map f) := by
  unfold encL at r
  cases r with
  | lst h1 h2 => exact ⟨_, _, rfl, h1, h2⟩
theorem rpAll_ints : ∀ {vs : List V} {xs : List Int}, RpAll H vs (xs.map PyData.int) → vs = xs.map V.int
  | _, [], .nil => rfl
  | _, x :: xs, .cons r t => by rw [rp_int r, rpAll_ints t] <;> rfl
theorem rp_ints {xs : List Int} (r : Rp H v (encL PyData.int xs)) : ∃ a, v = .ref a ∧ H a = some (.lst (xs.map V.int)) := by
  obtain ⟨a, vs, e, h1, h2⟩ := rp_list r
  rw [rpAll_ints h2] at h1
  exact ⟨a, e, h1⟩
theorem rp_tup2 {x : α × β} (r : Rp H v (encT2 f g x)) : ∃ a v1 v2, v = .ref a ∧ H a = some (.tup [v1, v2]) ∧ Rp H v1 (f x.1) ∧ Rp H v2 (g x.2) := by
  unfold encT2 at r
  cases r with
  | tup h1 h2 =>
    cases h2 with
    | cons a b =>
      cases b with
      | cons b c =>
        cases c
        exact ⟨_, _, _, rfl, h1, a, b⟩
theorem rp_tup3 {x : α × β × γ} (r : Rp H v (encT3 f g h x)) : ∃ a v1 v2 v3, v = .ref a ∧ H a = some (.tup [v1, v2, v3]) ∧ Rp H v1 (f x.1) ∧ Rp H v2 (g x.2.1) ∧ Rp H v3 (h x.2.2) := by
  unfold encT3 at r
  cases r with
  | tup h1 h2 =>
    cases h2 with
    | cons a b =>
      cases b with
      | cons b c =>
        cases c with
        | cons c d =>
          cases d
          exact ⟨_, _, _, _, rfl, h1, a, b, c⟩
theorem rp_mk_list {a : Addr} {vs : List V} {xs : List α} (h1 : H a = some (.lst vs)) (h2 : RpAll H vs (xs.map f)) : Rp H (.ref a) (encL f xs) := .lst h1 h2
theorem rp_mk_ints {a : Addr} {xs : List Int} (h1 : H a = some (.lst (xs.map V.int))) : Rp H (.ref a) (encL PyData.int xs) := .lst h1 (RpAll.ints xs)
theorem rp_mk2 {a : Addr} {v1 v2 : V} {x : α} {y : β} (h1 : H a = some (.tup [v1, v2])) (r1 : Rp H v1 (f x)) (r2 : Rp H v2 (g y)) : Rp H (.ref a) (encT2 f g (x, y)) := .tup h1 (.cons r1 (.cons r2 .nil))
theorem rp_mk3 {a : Addr} {v1 v2 v3 : V} {x : α} {y : β} {z : γ} (h1 : H a = some (.tup [v1, v2, v3])) (r1 : Rp H v1 (f x)) (r2 : Rp H v2 (g y)) (r3 : Rp H v3 (h z)) : Rp H (.ref a) (encT3 f g h (x, y, z)) := .tup h1 (.cons r1 (.cons r2 (.cons r3 .nil)))
end

/-! ### the two heaps -/
def SameXs (L : List Addr) (H H' : Hp) : Prop := ∀ b o, H b = some o → b ∉ L → H' b = some o
theorem SameXs.of {H H' : Hp} {m : Addr} (x : SameX m H H') : SameXs [m] H H' := fun b o e n => x b o e (fun z => n (by rw [z]; exact List.mem_cons_self))
theorem ni1 {b m : Addr} (h : b ≠ m) : b ∉ [m] := by simpa using h
theorem ni2 {b m n : Addr} (h : b ≠ m) (h2 : b ≠ n) : b ∉ [m, n] := by simp [h, h2]
theorem ni3 {b m n o : Addr} (h : b ≠ m) (h2 : b ≠ n) (h3 : b ≠ o) : b ∉ [m, n, o] := by simp [h, h2, h3]
theorem ni4 {b m n o p : Addr} (h : b ≠ m) (h2 : b ≠ n) (h3 : b ≠ o) (h4 : b ≠ p) : b ∉ [m, n, o, p] := by simp [h, h2, h3, h4]
def hideL (L : List Addr) (H : Hp) : Hp := fun b => if b ∈ L then none else H b
theorem hideL_same (L : List Addr) (H : Hp) : Same (hideL L H) H := fun b o e => by
  unfold hideL at e
  split at e
  · cases e
  · exact e
theorem hideL_in {L : List Addr} {H : Hp} {b : Addr} (h : b ∈ L) : hideL L H b = none := if_pos h
theorem hideL_out {L : List Addr} {H : Hp} {b : Addr} (h : b ∉ L) : hideL L H b = H b := if_neg h
/-- M: owned from outside; H0, G0: at the entry; G: what stays as it is; O: what may change -/
structure Sep (M : List Addr) (H0 G0 G H : Hp) (O : List Addr) : Prop where
  base : SameXs M H0 H
  pm : ∀ a ∈ M, H a ≠ none
  sG : Same G H
  g0 : Same G0 G
  gn : ∀ b, H0 b ≠ none → G0 b = none → G b = none
  ow : ∀ a ∈ O, G a = none ∧ H a ≠ none ∧ (a ∈ M ∨ H0 a = none)
theorem all_nil {P : Addr → Prop} : ∀ x ∈ ([] : List Addr), P x := fun x h => by cases h
theorem all_cons {P : Addr → Prop} {a : Addr} {l : List Addr} (h : P a) (t : ∀ x ∈ l, P x) : ∀ x ∈ a :: l, P x := fun x hx => by
  cases hx with
  | head => exact h
  | tail _ hx => exact t x hx
theorem some_ne {H : Hp} {a : Addr} {o : HO} (h : H a = some o) : H a ≠ none := by
  rw [h]
  exact fun z => nomatch z
theorem same_ne {H H' : Hp} {a : Addr} (e : Same H H') (h : H a ≠ none) : H' a ≠ none := by
  cases q : H a with
  | none => exact absurd q h
  | some o => exact some_ne (e a o q)
section
variable {M : List Addr} {H0 G0 G H H' : Hp} {O : List Addr} {p m : Addr} {o : HO}
theorem Sep.start (M : List Addr) (H : Hp) (hM : ∀ a ∈ M, H a ≠ none) : Sep M H (hideL M H) (hideL M H) H M :=
  ⟨fun _ _ e _ => e, hM, hideL_same M H, Same.refl _, fun _ _ e => e, fun a ha => ⟨hideL_in ha, hM a ha, .inl ha⟩⟩
theorem Sep.startG {G H : Hp} (e : Same G H) : Sep [] H G G H [] := ⟨fun _ _ e _ => e, all_nil, e, Same.refl _, fun _ _ e => e, fun a ha => by cases ha⟩
theorem Sep.start0 (H : Hp) : Sep [] H H H H [] := Sep.startG (Same.refl H)
theorem Sep.b0 (S : Sep [] H0 G0 G H O) : Same H0 H := fun b o e => S.base b o e List.not_mem_nil
theorem Sep.free (S : Sep M H0 G0 G H O) {q : Addr} (n : H q = none) : H0 q = none := by
  cases e : H0 q with
  | none => rfl
  | some o =>
    by_cases h : q ∈ M
    · exact absurd n (S.pm q h)
    · rw [S.base q o e h] at n
      cases n
theorem Sep.same (S : Sep M H0 G0 G H O) (e : Same H H') : Sep M H0 G0 G H' O :=
  ⟨fun b o h n => e b o (S.base b o h n), fun a ha => same_ne e (S.pm a ha), S.sG.trans e, S.g0, S.gn, fun a ha => ⟨(S.ow a ha).1, same_ne e (S.ow a ha).2.1, (S.ow a ha).2.2⟩⟩
theorem Sep.gfree (S : Sep M H0 G0 G H O) {q : Addr} (n : H q = none) : G q = none := by
  cases e : G q with
  | none => rfl
  | some o => rw [S.sG q o e] at n; cases n
theorem Sep.new (S : Sep M H0 G0 G H O) (n : H p = none) (e : Same H H') (h : H' p = some o) (hm : H0 p = none) : Sep M H0 G0 G H' (p :: O) := by
  have S1 := S.same e
  refine ⟨S1.base, S1.pm, S1.sG, S1.g0, S1.gn, fun a ha => ?_⟩
  cases ha with
  | head => exact ⟨S.gfree n, some_ne h, .inr hm⟩
  | tail _ ha => exact S1.ow a ha
theorem Sep.grow (S : Sep M H0 G0 G H O) (n : H p = none) (e : Same H H') (h : H' p = some o) (hm : H0 p = none) : ∃ G', Same G G' ∧ G' p = some o ∧ Sep M H0 G0 G' H' O := by
  have S1 := S.same e
  have ng := S.gfree n
  refine ⟨upd G p o, fun b u q => by rw [upd_ne (ne_of_none q ng)]; exact q, upd_same, S1.base, S1.pm, fun b u q => ?_, fun b u q => ?_, fun b hb gb => ?_, fun a ha => ?_⟩
  · by_cases z : b = p
    · subst z
      rw [upd_same] at q
      exact q ▸ h
    · rw [upd_ne z] at q
      exact S1.sG b u q
  · have := S.g0 b u q
    rw [upd_ne (ne_of_none this ng)]
    exact this
  · by_cases z : b = p
    · subst z
      exact absurd hm hb
    · rw [upd_ne z]
      exact S.gn b hb gb
  · have hne : a ≠ p := fun z => (S.ow a ha).2.1 (by rw [z]; exact n)
    rw [upd_ne hne]
    exact S1.ow a ha
theorem Sep.mut (S : Sep M H0 G0 G H O) {L : List Addr} (x : SameXs L H H') (hL : ∀ a ∈ L, a ∈ O) (hs : ∀ a ∈ L, H' a ≠ none) : Sep M H0 G0 G H' O := by
  have keep : ∀ a, H a ≠ none → H' a ≠ none := fun a h => by
    by_cases hb : a ∈ L
    · exact hs a hb
    · cases q : H a with
      | none => exact absurd q h
      | some o => exact some_ne (x a o q hb)
  refine ⟨fun b o e n => ?_, fun a ha => keep a (S.pm a ha), fun b o e => ?_, S.g0, S.gn, fun a ha => ⟨(S.ow a ha).1, keep a (S.ow a ha).2.1, (S.ow a ha).2.2⟩⟩
  · refine x b o (S.base b o e n) fun hb => ?_
    rcases (S.ow b (hL b hb)).2.2 with z | z
    · exact n z
    · rw [e] at z; cases z
  · refine x b o (S.sG b o e) fun hb => ?_
    have := (S.ow b (hL b hb)).1
    rw [e] at this
    cases this
theorem Sep.mut1 (S : Sep M H0 G0 G H O) (x : SameX m H H') (hm : m ∈ O) (h : H' m = some o) : Sep M H0 G0 G H' O :=
  S.mut (SameXs.of x) (all_cons hm all_nil) (all_cons (some_ne h) all_nil)
theorem Sep.sub (S : Sep M H0 G0 G H O) {O' : List Addr} (h : ∀ a ∈ O', a ∈ O) : Sep M H0 G0 G H O' := ⟨S.base, S.pm, S.sG, S.g0, S.gn, fun a ha => S.ow a (h a ha)⟩
/-- what was owned and is to stay as it is from now on -/
theorem Sep.freeze (S : Sep M H0 G0 G H O) {O' : List Addr} (hp : p ∈ O) (h : H p = some o) (hm : H0 p = none) (hO : ∀ a ∈ O', a ∈ O ∧ a ≠ p) : ∃ G', Same G G' ∧ G' p = some o ∧ Sep M H0 G0 G' H O' := by
  have ng := (S.ow p hp).1
  refine ⟨upd G p o, fun b u q => by rw [upd_ne (ne_of_none q ng)]; exact q, upd_same, S.base, S.pm, fun b u q => ?_, fun b u q => ?_, fun b hb gb => ?_, fun a ha => ?_⟩
  · by_cases z : b = p
    · subst z
      rw [upd_same] at q
      exact q ▸ h
    · rw [upd_ne z] at q
      exact S.sG b u q
  · have := S.g0 b u q
    rw [upd_ne (ne_of_none this ng)]
    exact this
  · by_cases z : b = p
    · subst z
      exact absurd hm hb
    · rw [upd_ne z]
      exact S.gn b hb gb
  · rw [upd_ne (hO a ha).2]
    exact S.ow a (hO a ha).1
/-- a callee that hands on data in a stable heap of its own -/
theorem Sep.step (S : Sep M H0 G0 G H O) {G' : Hp} (e : Same H H') (eG : Same G G') (sG : Same G' H') (hn : ∀ b, H b ≠ none → G b = none → G' b = none) : Sep M H0 G0 G' H' O := by
  have S1 := S.same e
  refine ⟨S1.base, S1.pm, sG, S.g0.trans eG, fun b hb gb => ?_, fun a ha => ⟨hn a (S.ow a ha).2.1 (S.ow a ha).1, (S1.ow a ha).2⟩⟩
  refine hn b (fun z => ?_) (S.gn b hb gb)
  exact hb (S.free z)
theorem Sep.hid (S : Sep M H0 G0 G H O) {L : List Addr} (h : ∀ a ∈ L, a ∈ O) : Same G (hideL L H) := fun b o e => by
  rw [hideL_out fun z => by
    have := (S.ow b (h b z)).1
    rw [e] at this
    cases this]
  exact S.sG b o e
end
end Vx

namespace Vx
open PySem PySem.Spec PyProof.Rows L2
/-! ### lists of plain things (f : V.int, V.bl, V.str) -/
section
variable {α : Type} {f : α → V} {H : Hp} {p : Addr}
theorem cat_map {xs ys : List α} (h : H p = some (.lst (xs.map f ++ ys.map f))) : H p = some (.lst ((xs ++ ys).map f)) := by
  rw [List.map_append]; exact h
theorem snoc_map {xs : List α} {y : α} (h : H p = some (.lst (xs.map f ++ [f y]))) : H p = some (.lst ((xs ++ [y]).map f)) := by
  rw [List.map_append]; exact h
def repL (xs : List α) (k : Int) : List α := (List.replicate k.toNat xs).flatten
theorem rep_map {xs : List α} {k : Int} (h : H p = some (.lst (List.replicate k.toNat (xs.map f)).flatten)) : H p = some (.lst ((repL xs k).map f)) := by
  rw [h]
  unfold repL
  rw [List.map_flatten, List.map_replicate]
def cutL (xs : List α) (lo hi : Option Int) : List α := (xs.drop (HT.sIx xs.length 0 lo)).take (HT.sIx xs.length xs.length hi - HT.sIx xs.length 0 lo)
theorem cut_map {xs : List α} {lo hi : Option Int} (h : H p = some (.lst (cutV (xs.map f) lo hi))) : H p = some (.lst ((cutL xs lo hi).map f)) := by
  rw [h]
  unfold cutV cutL
  rw [List.length_map, List.map_take, List.map_drop]
theorem cast_map {xs ys : List α} (h : H p = some (.lst (xs.map f))) (e : xs = ys) : H p = some (.lst (ys.map f)) := e ▸ h
theorem drop_map {xs : List α} (h : H p = some (.lst (xs.map f).dropLast)) : H p = some (.lst (xs.dropLast.map f)) := by
  rw [h, List.map_dropLast]
theorem ixN_some {n : Nat} {k : Int} (h : -(n : Int) ≤ k ∧ k < n) : ∃ j, ixN n k = some j ∧ j < n := by
  unfold ixN
  by_cases h0 : 0 ≤ k
  · exact ⟨k.toNat, by rw [if_pos h0, if_pos h.2], by omega⟩
  · exact ⟨(k + n).toNat, by rw [if_neg h0, if_pos h.1], by omega⟩
def itD [Inhabited α] (xs : List α) (k : Int) : α := (atI xs k).getD default
theorem atI_map [Inhabited α] {xs : List α} {k : Int} (h : -(xs.length : Int) ≤ k ∧ k < xs.length) : atI (xs.map f) k = some (f (itD xs k)) := by
  obtain ⟨j, e, hj⟩ := ixN_some h
  unfold itD atI
  rw [List.length_map, e]
  show (xs.map f)[j]? = some (f ((xs[j]?).getD default))
  rw [List.getElem?_map, List.getElem?_eq_getElem hj] <;> rfl
def setL (xs : List α) (k : Int) (y : α) : List α := xs.set ((ixN xs.length k).getD 0) y
theorem ixN_map {xs : List α} {k : Int} (h : -(xs.length : Int) ≤ k ∧ k < xs.length) : ixN (xs.map f).length k = some ((ixN xs.length k).getD 0) := by
  obtain ⟨j, e, hj⟩ := ixN_some h
  rw [List.length_map, e] <;> rfl
theorem set_map {xs : List α} {k : Int} {y : α} (h : H p = some (.lst ((xs.map f).set ((ixN xs.length k).getD 0) (f y)))) : H p = some (.lst ((setL xs k y).map f)) := by
  rw [h]
  unfold setL
  rw [List.map_set]
def lastD [Inhabited α] (xs : List α) : α := xs.getLastD default
theorem pop_map [Inhabited α] {xs : List α} (h : xs ≠ []) : (xs.map f)[(xs.map f).length - 1]? = some (f (lastD xs)) := by
  rw [← List.getLast?_eq_getElem?, List.getLast?_map]
  unfold lastD
  cases e : xs.getLast? with
  | none => exact absurd (List.getLast?_eq_none_iff.mp e) h
  | some y =>
    rw [List.getLastD_eq_getLast?, e] <;> rfl
end
/-! ### lists of data -/
section
variable {α β : Type} {f : α → PyData} {g : β → PyData} {G : Hp} {vs ws : List V} {xs ys : List α}
theorem app_map (a : RpAll G vs (xs.map f)) (b : RpAll G ws (ys.map f)) : RpAll G (vs ++ ws) ((xs ++ ys).map f) := by
  rw [List.map_append]; exact a.append b
theorem one_map {v : V} {y : α} (a : RpAll G vs (xs.map f)) (b : Rp G v (f y)) : RpAll G (vs ++ [v]) ((xs ++ [y]).map f) := by
  rw [List.map_append]; exact a.append (.one b)
theorem rep_all (k : Int) (a : RpAll G vs (xs.map f)) : RpAll G (List.replicate k.toNat vs).flatten ((repL xs k).map f) := by
  unfold repL
  rw [List.map_flatten, List.map_replicate]
  exact a.rep _
theorem cut_all (lo hi : Option Int) (a : RpAll G vs (xs.map f)) : RpAll G (cutV vs lo hi) ((cutL xs lo hi).map f) := by
  unfold cutV cutL
  rw [a.len, List.length_map, List.map_take, List.map_drop]
  exact (a.drop _).take _
theorem rp_cast {v : V} {d e : PyData} (r : Rp G v d) (h : d = e) : Rp G v e := h ▸ r
theorem comp_listD {i : Nat} {x : α} {y : β} {v : V} {h : α → β} (hi : xs[i]? = some x) (a : RpAll G vs (((xs.take i).map h).map g)) (r : Rp G v (g y)) (e : h x = y) : RpAll G (vs ++ [v]) (((xs.take (i + 1)).map h).map g) := by
  rw [take_succ_get hi, List.map_append, List.map_append]
  exact a.append (.one (e ▸ r))
theorem comp_rangeD {i : Nat} {y : β} {v : V} {h : Nat → β} (a : RpAll G vs (((List.range i).map h).map g)) (r : Rp G v (g y)) (e : h i = y) : RpAll G (vs ++ [v]) (((List.range (i + 1)).map h).map g) := by
  rw [List.range_succ, List.map_append, List.map_append]
  exact a.append (.one (e ▸ r))
theorem comp_doneD {n : Nat} {h : List α → List β} (hl : n = xs.length) (a : RpAll G vs ((h (xs.take n)).map g)) : RpAll G vs ((h xs).map g) := by
  rw [hl, List.take_length] at a
  exact a
theorem comp_listFD {i : Nat} {x : α} {y : β} {v : V} {h : α → β} {q : α → Bool} (hi : xs[i]? = some x) (hq : q x = true) (a : RpAll G vs ((((xs.take i).filter q).map h).map g)) (r : Rp G v (g y)) (e : h x = y) : RpAll G (vs ++ [v]) ((((xs.take (i + 1)).filter q).map h).map g) := by
  rw [take_succ_get hi, List.filter_append, List.filter_cons, if_pos hq, List.map_append, List.map_append]
  exact a.append (.one (e ▸ r))
theorem skip_listD {i : Nat} {x : α} {h : α → β} {q : α → Bool} (hi : xs[i]? = some x) (hq : q x = false) (a : RpAll G vs ((((xs.take i).filter q).map h).map g)) : RpAll G vs ((((xs.take (i + 1)).filter q).map h).map g) := by
  rw [take_succ_get hi, List.filter_append, List.filter_cons, if_neg (by rw [hq]; decide), List.filter_nil, List.append_nil]
  exact a
end
section
variable {α β : Type} {f : β → V} {H : Hp} {D : Addr} {xs : List α}
theorem compM_list {i : Nat} {x : α} {y : β} {h : α → β} (hi : xs[i]? = some x) (a : H D = some (.lst (((xs.take i).map h).map f ++ [f y]))) (e : h x = y) : H D = some (.lst (((xs.take (i + 1)).map h).map f)) := by
  rw [a, ← e, take_succ_get hi, List.map_append, List.map_append] <;> rfl
theorem compM_range {i : Nat} {y : β} {h : Nat → β} (a : H D = some (.lst (((List.range i).map h).map f ++ [f y]))) (e : h i = y) : H D = some (.lst (((List.range (i + 1)).map h).map f)) := by
  rw [a, ← e, List.range_succ, List.map_append, List.map_append] <;> rfl
theorem compM_done {n : Nat} {h : List α → List β} (hl : n = xs.length) (a : H D = some (.lst ((h (xs.take n)).map f))) : H D = some (.lst ((h xs).map f)) := by
  rw [hl, List.take_length] at a
  exact a
theorem compM_listF {i : Nat} {x : α} {y : β} {h : α → β} {q : α → Bool} (hi : xs[i]? = some x) (hq : q x = true) (a : H D = some (.lst ((((xs.take i).filter q).map h).map f ++ [f y]))) (e : h x = y) : H D = some (.lst ((((xs.take (i + 1)).filter q).map h).map f)) := by
  rw [a, ← e, take_succ_get hi, List.filter_append, List.filter_cons, if_pos hq, List.map_append, List.map_append] <;> rfl
theorem skipM_list {i : Nat} {x : α} {h : α → β} {q : α → Bool} (hi : xs[i]? = some x) (hq : q x = false) (a : H D = some (.lst ((((xs.take i).filter q).map h).map f))) : H D = some (.lst ((((xs.take (i + 1)).filter q).map h).map f)) := by
  rw [a, take_succ_get hi, List.filter_append, List.filter_cons, if_neg (by rw [hq]; decide), List.filter_nil, List.append_nil]
theorem compM_rangeF {i : Nat} {y : β} {h : Nat → β} {q : Nat → Bool} (hq : q i = true) (a : H D = some (.lst ((((List.range i).filter q).map h).map f ++ [f y]))) (e : h i = y) : H D = some (.lst ((((List.range (i + 1)).filter q).map h).map f)) := by
  rw [a, ← e, List.range_succ, List.filter_append, List.filter_cons, if_pos hq, List.map_append, List.map_append] <;> rfl
theorem skipM_range {i : Nat} {h : Nat → β} {q : Nat → Bool} (hq : q i = false) (a : H D = some (.lst ((((List.range i).filter q).map h).map f))) : H D = some (.lst ((((List.range (i + 1)).filter q).map h).map f)) := by
  rw [a, List.range_succ, List.filter_append, List.filter_cons, if_neg (by rw [hq]; decide), List.filter_nil, List.append_nil]
end
/-! ### more rules -/
section
variable {X : Cx} {K : PySem.W.Frag}
theorem ix_tupK (hK : X.K = K := by rfl) : IxR X (rIxT K) := hK ▸ ix_tup
def rLenLK (K : PySem.W.Frag) : List V → Hp → VK → Prop := fun xs H Q => ∃ (p : Addr) (vs : List V) (n : Nat), xs = [.ref p] ∧ SqL K H p vs ∧ vs.length = n ∧ Q (.int (n : Int)) H
theorem call_lenLK (hK : X.K = K := by rfl) : CallR X (.builtin "len") (rLenLK K) := by
  subst hK
  intro pins s σ H xs us Q I r h
  obtain ⟨p, vs, n, rfl, hs, hn, q⟩ := h
  exact call_len_seq pins s σ H _ us Q I r ⟨p, _, rfl, Or.inl hs, by rw [hn]; exact q⟩
def rListLK (K : PySem.W.Frag) : List V → Hp → VK → Prop := fun xs H Q => ∃ (p : Addr) (vs : List V), xs = [.ref p] ∧ SqL K H p vs ∧ ∀ l, H l = none → Q (.ref l) (upd H l (.lst vs))
theorem call_listLK (hK : X.K = K := by rfl) : CallR X (.type "list") (rListLK K) := by
  subst hK
  intro pins s σ H xs us Q I r h
  obtain ⟨p, vs, rfl, hs, q⟩ := h
  exact call_list_of pins s σ H _ us Q I r ⟨p, _, rfl, Or.inl hs, q⟩
theorem cr_anyK (hc : X.calm = true) (hK : X.K = K := by rfl) : CallR X (.builtin "any") (rAny K) := hK ▸ cr_any hc
theorem cr_allK (hc : X.calm = true) (hK : X.K = K := by rfl) : CallR X (.builtin "all") (rAll K) := hK ▸ cr_all hc
theorem pi_tupK {tg l : Expr} {tl : TE} (hl : PE X l tl) (hK : X.K = K := by rfl) : PI X tg l (iTup K tl) := hK ▸ pi_tup hl
theorem pip {op : Operator} {r : R2} (h : OpR X (inplaceOp op) r) : PIp X op r := fun pins s σ H x y v u Q I rx ry q => h pins s σ H x y v u Q I rx ry q
/-- an item at a place from 0 on, by itself (ahead of o[i] op= e) -/
def rIxP (K : PySem.W.Frag) : R2 := fun x y H Q => ∃ (p : Addr) (xs : List V) (k : Int) (v : V), x = .ref p ∧ y = .int k ∧ SqL K H p xs ∧ 0 ≤ k ∧ k < 2 ^ 62 ∧ atI xs k = some v ∧ Q v H
theorem pget_list (hK : X.K = K := by rfl) : PGet X (rIxP K) := by
  subst hK
  intro pins s σ H o i ov iv Q I ro ri h
  obtain ⟨p, xs, k, v, rfl, rfl, hq, h0, h62, ha, q⟩ := h
  cases ro
  obtain ⟨t, rfl⟩ := ri
  obtain ⟨its, r, pl, hz⟩ := I.list hq
  obtain ⟨j, h1, h2, h3, h4, h5⟩ := atI_get ha
  obtain ⟨w, ew, rw'⟩ := r.get h2
  have hj : k.toNat = j := by
    rw [seqIndex_of h0 h5] at h1
    exact Option.some.inj h1
  exact getItem_listL pl.isList h0 (by omega) (by rw [hj]; simpa using ew) ⟨v, H, I, rw', q⟩
theorem tru_map {α : Type} [DecidableEq α] {f : α → V} {xs : List α} : (!decide (xs = [])) = !(xs.map f).isEmpty := by
  cases xs <;> simp
end
end Vx

namespace Vx
open PySem PySem.Spec PyProof.Rows L2
/-! ### objects -/
section
variable {M : List Addr} {H0 G0 G H H' : Hp} {O : List Addr} {p m : Addr} {o : HO}
theorem gen_obj {x dx : Addr} {o1 o2 : HO} (nx : H x = none) (nd : H dx = none) (ne : dx ≠ x) (h : upd (upd H dx o1) x o2 = H') : Same H H' ∧ H' x = some o2 := by
  subst h
  exact ⟨fun b u e => by rw [upd_ne (ne_of_none e nx), upd_ne (ne_of_none e nd)]; exact e, upd_same⟩
theorem sameX_of {m : Addr} (x : SameXs [m] H H') : SameX m H H' := fun b o e n => x b o e (by simpa using n)
theorem g_ne {a b : Addr} (h : G a = some o) (S : Sep M H0 G0 G H O) (hb : b ∈ O) : a ≠ b := fun z => by
  have := (S.ow b hb).1
  rw [← z, h] at this
  cases this
/-- an object whose making has laid some lists -/
theorem Sep.mutnew (S : Sep M H0 G0 G H O) {L : List Addr} (x : SameXs L H H') (hL : ∀ a ∈ L, a ∈ O) (hs : ∀ a ∈ L, H' a ≠ none) (hn : H p = none) (hp : H' p ≠ none) (h0 : H0 p = none) : Sep M H0 G0 G H' (p :: O) := by
  have S1 := S.mut x hL hs
  refine ⟨S1.base, S1.pm, S1.sG, S1.g0, S1.gn, all_cons ⟨S.gfree hn, hp, .inr h0⟩ S1.ow⟩
theorem Sep.init (S : Sep M H0 G0 G H O) (x : SameX m H H') (hm : m ∈ O) (h : H' m = some o) (L : List Addr) (hL : ∀ a ∈ L, H a = none ∧ H' a ≠ none ∧ H0 a = none) : Sep M H0 G0 G H' (L ++ O) := by
  have S1 := S.mut1 x hm h
  refine ⟨S1.base, S1.pm, S1.sG, S1.g0, S1.gn, fun a ha => ?_⟩
  rcases List.mem_append.mp ha with z | z
  · obtain ⟨h1, h2, h3⟩ := hL a z
    exact ⟨S.gfree h1, h2, .inr h3⟩
  · exact S1.ow a z
end
section
variable {P : Program} {w : World} {K : PySem.W.Frag} {mg : Str → Option Value} {base : Heap}
structure MethIn (K : PySem.W.Frag) (C : Addr) (q m : Str) (st : Stmt) (ps : List Str) : Prop where
  ex : ∃ (f : Addr) (fd : FuncData), Fun K m q st f fd ∧ Meth K C m f ∧ Binds K fd ps []
structure PropIn (K : PySem.W.Frag) (C : Addr) (q m : Str) (st : Stmt) (ps : List Str) : Prop where
  ex : ∃ (r f : Addr) (fd : FuncData), Fun K m q st f fd ∧ PropOf K C m r f ∧ Binds K fd ps []
structure InitIn (K : PySem.W.Frag) (mg : Str → Option Value) (C : Addr) (cn q : Str) (st : Stmt) (ps : List Str) : Prop where
  ex : ∃ (f : Addr) (fd : FuncData), Fun K "__init__" q st f fd ∧ Mk K C f ∧ mg cn = some (.ref C) ∧ Binds K fd ps []
structure MetC (P : Program) (w : World) (K : PySem.W.Frag) (mg : Str → Option Value) (base : Heap) (k : Nat) (C : Addr) (m : Str) (sp : Sp) : Prop where
  ex : ∃ (f : Addr) (fd : FuncData) (ps : List Str), Cls K C ∧ Meth K C m f ∧ FnOk P w K mg base CX0 k f fd ps sp ∧ Binds K fd ps []
structure PropC (P : Program) (w : World) (K : PySem.W.Frag) (mg : Str → Option Value) (base : Heap) (k : Nat) (C : Addr) (m : Str) (sp : Sp) : Prop where
  ex : ∃ (q f : Addr) (fd : FuncData) (ps : List Str), Cls K C ∧ PropOf K C m q f ∧ FnOk P w K mg base CX0 k f fd ps sp ∧ Binds K fd ps []
structure MakC (P : Program) (w : World) (K : PySem.W.Frag) (mg : Str → Option Value) (base : Heap) (k : Nat) (cn : Str) (C : Addr) (sp : Sp) : Prop where
  ex : ∃ (f : Addr) (fd : FuncData) (ps : List Str), Mk K C f ∧ FnOk P w K mg base CX0 k f fd ps sp ∧ mg cn = some (.ref C) ∧ Binds K fd ps []
abbrev Body (P : Program) (w : World) (K : PySem.W.Frag) (mg : Str → Option Value) (base : Heap) (x : Str) (st : Stmt) (N : List Str) (k : Nat) (sp : Sp) : Prop :=
  ∀ (f : Addr) (cdv : Value) (A : Around) (outer : List Env) (s : Shared) (H : Hp) (vs : List V) (Q : VK) (E : XK), Room k (A.deeper (envOfC x (defScope st) s.heap.objs.size f cdv)) → sp vs H Q E →
    ∃ t, PSs (cxOf CX0 P w K mg base N x (defScope st) f cdv A outer s H E).nox (defBody st) t ∧ t { nx := fun _ H' => Q .non H', rt := Q } (start N vs) H
theorem MethIn.ok {C : Addr} {q m : Str} {st : Stmt} {N ps : List Str} {k : Nat} {sp : Sp} (D : MethIn K C q m st ps) (c : Cls K C) (S : FnScope N ps (defScope st)) (len : ∀ vs H Q E, sp vs H Q E → vs.length = ps.length)
    (hbody : Body P w K mg base q st N k sp) : MetC P w K mg base (k + 1) C m sp := by
  obtain ⟨f, fd, F, me, b⟩ := D.ex
  exact ⟨f, fd, ps, c, me, F.ok S len (fun cdv A outer s H vs Q E hr h => hbody f cdv A outer s H vs Q E hr h), b⟩
theorem PropIn.ok {C : Addr} {q m : Str} {st : Stmt} {N ps : List Str} {k : Nat} {sp : Sp} (D : PropIn K C q m st ps) (c : Cls K C) (S : FnScope N ps (defScope st)) (len : ∀ vs H Q E, sp vs H Q E → vs.length = ps.length)
    (hbody : Body P w K mg base q st N k sp) : PropC P w K mg base (k + 1) C m sp := by
  obtain ⟨r, f, fd, F, me, b⟩ := D.ex
  exact ⟨r, f, fd, ps, c, me, F.ok S len (fun cdv A outer s H vs Q E hr h => hbody f cdv A outer s H vs Q E hr h), b⟩
theorem InitIn.ok {C : Addr} {cn q : Str} {st : Stmt} {N ps : List Str} {k : Nat} {sp : Sp} (D : InitIn K mg C cn q st ps) (S : FnScope N ps (defScope st)) (len : ∀ vs H Q E, sp vs H Q E → vs.length = ps.length)
    (hbody : Body P w K mg base q st N k sp) : MakC P w K mg base (k + 1) cn C sp := by
  obtain ⟨f, fd, F, me, hm, b⟩ := D.ex
  exact ⟨f, fd, ps, me, F.ok S len (fun cdv A outer s H vs Q E hr h => hbody f cdv A outer s H vs Q E hr h), hm, b⟩
end
section
variable {X : Cx} {k j : Nat} {C : Addr} {x m : Str} {sp : Sp} {p pos apos : Pos} {e o : Expr} {es : List Expr} {ta : TE} {t : TA}
theorem vx_call0 (c : Cal X.prog X.w X.K X.mg X.base k x sp) (hr : Room j X.A) (hk : k ≤ j) (hg : Gl X x) (hdb : (x == ("__debug__" : Str)) = false := by decide) : PE X (.Call (.Name x p) [] [] pos) (tCall sp [] E0 tNil) := by
  obtain ⟨f, fd, ps, F, hm, kp, b⟩ := c.ex
  exact pe_call0 F (hr.mono hk) hg hm kp b .nil pass0 hdb
theorem vx_make (c : MakC X.prog X.w X.K X.mg X.base k x C sp) (hr : Room j X.A) (hk : k + 1 ≤ j) (hg : Gl X x) (ha : PA X (e :: es) t)
    (hdb : (x == ("__debug__" : Str)) = false := by decide) (he : starEach (e :: es) X.env = (false, eval e X.env) :: starEach es X.env := by rfl) (hpl : (backTo pos (starEach es X.env)).any (·.1) = false := by rfl) :
    PE X (.Call (.Name x p) (e :: es) [] pos) (tMake C sp [] E0 t) := by
  obtain ⟨f, fd, ps, M, F, hm, b⟩ := c.ex
  exact pe_make M F (hr.mono hk) hg hm b .nil pass0 ha hdb he hpl
theorem vx_make0 (c : MakC X.prog X.w X.K X.mg X.base k x C sp) (hr : Room j X.A) (hk : k + 1 ≤ j) (hg : Gl X x) (hdb : (x == ("__debug__" : Str)) = false := by decide) :
    PE X (.Call (.Name x p) [] [] pos) (tMake C sp [] E0 tNil) := by
  obtain ⟨f, fd, ps, M, F, hm, b⟩ := c.ex
  exact pe_make0 M F (hr.mono hk) hg hm b .nil pass0 hdb
theorem vx_meth {pl : Sem Bool} (c : MetC X.prog X.w X.K X.mg X.base k C m sp) (hr : Room j X.A) (hk : k ≤ j) (he : PE X o ta) (ha : PA X (e :: es) t)
    (hst : starEach (e :: es) X.env = (false, eval e X.env) :: starEach es X.env := by rfl) (hpl : (backTo pos (starEach es X.env)).any (·.1) = false := by rfl)
    (ht : eval (.Call (.Attribute o m apos) (e :: es) [] pos) X.env = (do
      let ov ← eval o X.env
      standAt apos.atName
      let (f, first) ← holding [ov] (getMethod ov m pl)
      callWith pos f first (backTo pos (starEach (e :: es) X.env)) (backToKw pos (keywordEach [] X.env))) := by rfl) :
    PE X (.Call (.Attribute o m apos) (e :: es) [] pos) (tMeth C m sp [] E0 ta t) := by
  obtain ⟨f, fd, ps, hc, hm, F, b⟩ := c.ex
  exact pe_meth he hc hm F (hr.mono hk) b .nil pass0 ha hst hpl ht
theorem vx_meth0 {pl : Sem Bool} (c : MetC X.prog X.w X.K X.mg X.base k C m sp) (hr : Room j X.A) (hk : k ≤ j) (he : PE X o ta)
    (ht : eval (.Call (.Attribute o m apos) [] [] pos) X.env = (do
      let ov ← eval o X.env
      standAt apos.atName
      let (f, first) ← holding [ov] (getMethod ov m pl)
      callWith pos f first (backTo pos (starEach [] X.env)) (backToKw pos (keywordEach [] X.env))) := by rfl) :
    PE X (.Call (.Attribute o m apos) [] [] pos) (tMeth C m sp [] E0 ta tNil) := by
  obtain ⟨f, fd, ps, hc, hm, F, b⟩ := c.ex
  exact pe_meth0 he hc hm F (hr.mono hk) b .nil pass0 ht
theorem vx_prop (c : PropC X.prog X.w X.K X.mg X.base k C m sp) (hr : Room j X.A) (hk : k + 1 ≤ j) (he : PE X o ta) (hab : attributeBase o m X.env (eval o X.env) = eval o X.env) : PE X (.Attribute o m pos) (tProp C sp [] E0 ta) := by
  obtain ⟨q, f, fd, ps, hc, hp, F, b⟩ := c.ex
  exact pe_prop he hc hp F (hr.mono hk) b .nil pass0 hab
end
theorem iteBNT {b : Bool} {A B : Prop} (h : b = false) (k : A) : if (!b) = true then A else B := by rw [h]; exact iteT k
theorem iteNN {b : Bool} {A B : Prop} (h : if b = true then A else B) : if (!!b) = true then A else B := by rw [Bool.not_not]; exact h
theorem iteBNF {b : Bool} {A B : Prop} (h : b = true) (k : B) : if (!b) = true then A else B := by rw [h]; exact iteF k
theorem shl_side {i j : Int} (h0 : 0 ≤ j) (h1 : j ≤ 4096) (h2 : -(2 ^ 4096) < i) (h3 : i < 2 ^ 4096) : CShl i j := by
  obtain ⟨k, rfl⟩ := Int.eq_ofNat_of_zero_le h0
  exact shl_ok (n := 4096) (by omega) (by omega)
end Vx

namespace Vx
open PySem PySem.Spec PyProof.Rows L2
section
variable {X : Cx} {K : PySem.W.Frag}
theorem fldK {e : Expr} {f : Str} {pos : Pos} {ta : TE} (he : PE X e ta) (hb : attributeBase e f X.env (eval e X.env) = eval e X.env := by rfl) (hK : X.K = K := by rfl) : PE X (.Attribute e f pos) (tFld K ta f) := hK ▸ pe_fld he hb
theorem pg_tupK {es : List Expr} {k : Nat} {t : TGs} {n : Nat} {pos : Pos} (h : PGs X es t) (hc : X.calm = true := by rfl)
    (hn : (assignEach es X.env).length = n := by rfl) (hst : (assignEach es X.env).findIdx? (·.1) = none := by rfl) (hK : X.K = K := by rfl) : PG X (.Tuple es k pos) (gTup K n t) := hK ▸ pg_tup hc h hn hst
end
end Vx

namespace Vx
open PySem PySem.Spec PyProof.Rows L2
section
variable {α β : Type} {f : α → PyData} {g : β → PyData} {fv : α → V} {gv : β → V} {G : Hp} {vs ws : List V} {xs : List α} {ys : List β}
theorem big1 {n : Nat} (h : n ≤ 1000000) : n ≤ sizeLine := smallE h
theorem cat_len (a : RpAll G vs (xs.map f)) (b : RpAll G ws (ys.map g)) (h : xs.length + ys.length ≤ 1000000) : vs.length + ws.length ≤ sizeLine := by
  rw [a.len, b.len, List.length_map, List.length_map]; exact smallE h
theorem cat_lenM (h : xs.length + ys.length ≤ 1000000) : (xs.map fv).length + (ys.map gv).length ≤ sizeLine := by
  rw [List.length_map, List.length_map]; exact smallE h
theorem rep_len {k : Nat} (a : RpAll G vs (xs.map f)) (h : xs.length * k ≤ 1000000) : vs.length * k ≤ sizeLine := by
  rw [a.len, List.length_map]; exact smallE h
theorem rep_lenM {k : Nat} (h : xs.length * k ≤ 1000000) : (xs.map fv).length * k ≤ sizeLine := by
  rw [List.length_map]; exact smallE h
theorem app_len (a : RpAll G vs (xs.map f)) (h : xs.length ≤ 1000000) : vs.length < sizeLine := by
  rw [a.len, List.length_map]; exact small h
theorem app_lenM (h : xs.length ≤ 1000000) : (xs.map fv).length < sizeLine := by
  rw [List.length_map]; exact small h
theorem cutL_len {α : Type} (xs : List α) (lo hi : Option Int) : (cutL xs lo hi).length ≤ xs.length := by
  unfold cutL
  rw [List.length_take, List.length_drop]
  omega
theorem repL_len {α : Type} (xs : List α) (k : Int) : (repL xs k).length = k.toNat * xs.length := by
  unfold repL
  simp
end
end Vx
/-! # promises of defs that know that nothing is being shown (so that repr may be called) -/
namespace Vx
open PySem PySem.Spec PyProof.Rows L2
structure RoomG (k : Nat) (A : Around) : Prop extends Room k A where
  gd : A.guards = some []
theorem RoomG.low {j k : Nat} {A : Around} (r : RoomG k A) (h : j ≤ k) : RoomG j A := ⟨r.toRoom.mono h, r.gd⟩
theorem RoomG.one {k : Nat} {A : Around} (r : RoomG (k + 1) A) : RoomG k A.in1 := ⟨r.toRoom.in1, r.gd⟩
theorem make_gd {A : Around} (C : Addr) (us : List Value) (kw : List (Str × Value)) (h : A.guards = some []) : (A.under (.builtin "type.__call__" ⟨.ref C :: us, kw⟩)).guards = some [] := by
  obtain ⟨hd, d, fr, gs, u⟩ := A
  subst h
  simp [Around.under, Code.guards, Code.isGuard, guardIds, pushGuards]
theorem RoomG.made {k : Nat} {A : Around} (r : RoomG (k + 1) A) (C : Addr) (us : List Value) (kw : List (Str × Value)) : RoomG k (A.under (.builtin "type.__call__" ⟨.ref C :: us, kw⟩)) := ⟨r.toRoom.make C us kw, make_gd C us kw r.gd⟩
structure FnG (P : Program) (w : World) (K : PySem.W.Frag) (mg : Str → Option Value) (base : Heap) (cx : CXT) (k : Nat) (f : Addr) (fd : FuncData) (ps : List Str) (sp : Sp) : Prop where
  len : ∀ vs H Q E, sp vs H Q E → vs.length = ps.length
  run : ∀ (A : Around) (outer : List Env) (s : Shared) (H : Hp) (args : Args) (us : List Value) (vs : List V) (Q : VK) (E : XK), RoomG k A → Env0 P w K mg base A outer s H → BindsTo s fd args (ps.zip us) → Vals vs us → sp vs H Q E → codeAny (model P w) A (.call (.ref f) args) (CR cx outer P w H s Q E) s
section
variable {P : Program} {w : World} {K : PySem.W.Frag} {mg : Str → Option Value} {base : Heap} {cx : CXT} {j k : Nat} {f : Addr} {fd : FuncData} {ps : List Str} {sp sp' : Sp}
theorem FnG.imp (F : FnG P w K mg base cx k f fd ps sp) (h : ∀ vs H Q E, sp' vs H Q E → sp vs H Q E) : FnG P w K mg base cx k f fd ps sp' := ⟨fun vs H Q E q => F.len vs H Q E (h vs H Q E q), fun A o s H a us vs Q E r e b v q => F.run A o s H a us vs Q E r e b v (h vs H Q E q)⟩
/-- the body's promise is the def's -/
theorem FnG.body {x qual : Str} {params : Arguments} {body : List Stmt} {scope : Scope} {dvs : List V} {kws : List (Str × V)} {N : List Str} (F : FunD K x qual params body scope dvs kws f fd) (S : FnScope N ps scope) (len : ∀ vs H Q E, sp vs H Q E → vs.length = ps.length)
    (hb : ∀ (cdv : Value) (A : Around) (outer : List Env) (s : Shared) (H : Hp) (vs : List V) (Q : VK) (E : XK), RoomG k (A.deeper (envOfC qual scope s.heap.objs.size f cdv)) → sp vs H Q E →
      ∃ t, PSs (cxOf cx P w K mg base N qual scope f cdv A outer s H E) body t ∧ t { nx := fun _ H' => Q .non H', rt := Q } (start N vs) H) : FnG P w K mg base cx (k + 1) f fd ps sp := by
  obtain ⟨oc, od, dV, kV, doc, pm, an, cdv, ct, osl, rfl, lk, code, _, _⟩ := F.ex
  constructor
  · exact len
  · intro A outer s H args us vs Q E room env binds vals prom
    have nvs := len vs H Q E prom
    have kin : K.In s.heap := env.mod.kin.keeps fun b o q => (env.bs b o q).1
    have nolim : s.heap.NoLimit := env.mod.nolimit.keeps fun b o q => (env.bs b o q).1
    have kinds : ∀ q ∈ ps.zip us, scope.names.lookup q.1 = some .local ∨ (scope.names.lookup q.1 = some .cell ∧ ((cellsFrom (s.heap.objs.size + 1) scope.names []).lookup q.1).isSome = true) := by
      rintro ⟨n, v⟩ hq
      cases S.par n (List.of_mem_zip hq).1 with
      | inl z => exact .inl z
      | inr z => exact .inr ⟨z, PySem.W.cellsFrom_some _ _ _ (.inl z)⟩
    refine codeAny_call_function room.toRoom.depth (kin _ _ lk) rfl S.co S.gen rfl (PySem.W.codeRec_of kin code) (binds _ _ _ _ ?_)
    refine wpAny_newFunctionEnv_cells S.kind kinds ?_
    rintro _ rfl s1 made
    refine ⟨nolim.keeps made.toInCall.keep, codeAny_func ?_⟩
    obtain ⟨t, pss, start_⟩ := hb cdv A outer s H vs Q E ⟨room.toRoom.deeper _, room.gd⟩ prom
    have inv := inv_start (CX := cx) (E := E) S room.hd env nvs vals made
    have close : ∀ {τ : L2.St} {H2 : Hp} {v : V} {u : Value} {s2 : Shared}, Inv (cxOf cx P w K mg base N qual scope f cdv A outer s H E) [] τ H2 s2 → RelV v u → Q v H2 → CE outer P w H s Q u s2 := fun inv2 rel q => ⟨_, _, inv2.os, inv2.bare, inv2.base, inv2.hok, rel, q⟩
    refine wpAny_mono (pss.run [] s1 (start N vs) H _ inv start_) ?_ fun _ _ z => z
    intro flow s2 out
    cases flow with
    | next =>
      obtain ⟨τ, H2, inv2, q⟩ := out
      exact close (v := .non) (u := .none) inv2 rfl q
    | ret u =>
      obtain ⟨v, τ, H2, inv2, rel, q⟩ := out
      exact close inv2 rel q
    | brk =>
      obtain ⟨_, _, _, q⟩ := out
      exact q.elim
    | cont =>
      obtain ⟨_, _, _, q⟩ := out
      exact q.elim
/-- the same of a body that nothing leaves -/
theorem FnG.bodyN {x qual : Str} {params : Arguments} {body : List Stmt} {scope : Scope} {dvs : List V} {kws : List (Str × V)} {N : List Str} (F : FunD K x qual params body scope dvs kws f fd) (S : FnScope N ps scope) (len : ∀ vs H Q E, sp vs H Q E → vs.length = ps.length)
    (hb : ∀ (cdv : Value) (A : Around) (outer : List Env) (s : Shared) (H : Hp) (vs : List V) (Q : VK) (E : XK), RoomG k (A.deeper (envOfC qual scope s.heap.objs.size f cdv)) → sp vs H Q E →
      ∃ t, PSs (cxOf CX0 P w K mg base N qual scope f cdv A outer s H E).nox body t ∧ t { nx := fun _ H' => Q .non H', rt := Q } (start N vs) H) : FnG P w K mg base CX0 (k + 1) f fd ps sp :=
  FnG.body F S len fun cdv A outer s H vs Q E r p => by
    obtain ⟨t, h, q⟩ := hb cdv A outer s H vs Q E r p
    exact ⟨t, h.nox, q⟩
end
/-- where a law's call begins: an abstract heap that tells the script at most -/
theorem law_start {P : Program} {w : World} {K : PySem.W.Frag} {mg mb : Str → Option Value} {a : Addr} {s : Shared} {vs : List Value} {ns : List Int} (kin : K.In s.heap) (top : s.heap.Ns mainGlobals mg) (blt : s.heap.Ns builtinsNs mb) (boot : ∀ y : Str, y ≠ "__name__" → mb y = bootBuiltins y)
    (lim : s.heap.NoLimit) (gens : s.gens = #[]) (script : s.heap.get? a = some { cls := .type "list", data := .seq vs.toArray }) (whole : IntsAre vs ns) (short : ns.length ≤ sizeLine) :
    ∃ (H : Hp) (base : Heap), SqL K H a (ns.map V.int) ∧ K.In base ∧ base.Ns mainGlobals mg ∧ Env0 P w K mg base callerA [] s H ∧
      ∀ (Z : V → Prop) (u : Value) (s2 : Shared), CE [] P w H s (fun v _ => Z v) u s2 → (∃ v, RelV v u ∧ Z v) ∧ OldK s.heap s2.heap ∧ s2.os = s.os ∧ AllBare s2.gens := by
  have rel := vals_ints whole
  have lenV := whole.length
  -- any H that tells no more than the script, and that only where the written part does not hold it, will do
  have fits : ∀ H : Hp, (∀ b, H b = none ∨ ∃ o xs, H b = some (.frz o (.lst xs))) → SqL K H a (ns.map V.int) → HOk P w H s.heap → (∀ b, b ≠ a → H b = none) → (∀ o, K.lookup a = some o → H a = none) →
      ∃ (H : Hp) (base : Heap), SqL K H a (ns.map V.int) ∧ K.In base ∧ base.Ns mainGlobals mg ∧ Env0 P w K mg base callerA [] s H ∧
        ∀ (Z : V → Prop) (u : Value) (s2 : Shared), CE [] P w H s (fun v _ => Z v) u s2 → (∃ v, RelV v u ∧ Z v) ∧ OldK s.heap s2.heap ∧ s2.os = s.os ∧ AllBare s2.gens := by
    intro H only seq ok else_ apart
    have dictFree : ∀ (b : Addr) (o : Obj) (es : Array DictEntry) (n : Nat), s.heap.get? b = some o → o.data = .dict es n → H b = none := by
      intro b o es n e d
      by_cases z : b = a
      · subst z
        rw [script] at e
        injection e with e
        subst e
        cases d
      · exact else_ b z
    have nsOf : ∀ {b : Addr} {m : Str → Option Value}, s.heap.Ns b m → (hidT s.heap H).Ns b m := by
      rintro b m ⟨o, es, n, e, d, r⟩
      exact ⟨o, es, n, hidT_get e (dictFree b o es n e d), d, r⟩
    have kinB : K.In (hidT s.heap H) := by
      intro b o e
      refine hidT_get (kin b o e) ?_
      by_cases z : b = a
      · subst z
        exact apart o e
      · exact else_ b z
    obtain ⟨mc, lim1, lim2⟩ := lim
    refine ⟨H, hidT s.heap H, seq, kinB, nsOf top, ⟨rfl, ⟨kinB, nsOf top, ⟨mb, nsOf blt, boot⟩, mc, nsOf lim1, lim2⟩, fun b o e => of_hidT e, Nat.le_of_eq (hidT_size _ _), trivial, fun b hb => (nomatch (show b ∈ ([] : List Addr) from hb)), ok, .of_eq gens⟩, ?_⟩
    rintro Z u s2 ⟨v, H2, os, bare, un, ok2, r, z⟩
    refine ⟨⟨v, r, z⟩, OldK.of_keep fun b o e => ?_, os, bare⟩
    rcases only b with n | ⟨o1, xs, n⟩
    · exact un.keep b o e n (fun y => nomatch (show b ∈ ([] : List Addr) from y)) (fun y => nomatch y)
    · obtain ⟨e1, _⟩ := ok b _ n
      obtain ⟨e2, _⟩ := ok2 b _ (un.frzs b o1 _ n)
      rw [e] at e1
      injection e1 with e1
      subst e1
      exact e2
  cases kl : K.lookup a with
  | some o =>
    have e := kin a o kl
    rw [script] at e
    injection e with e
    subst e
    exact fits (fun _ => none) (fun _ => .inl rfl) (.inr ⟨_, vs.toArray, _, kl, rfl, rfl, rfl, by rw [List.size_toArray, lenV]; exact short, by simpa using rel⟩) (fun _ _ z => nomatch z) (fun _ _ => rfl) fun _ _ => rfl
  | none =>
    refine fits (fun b => if b = a then some (.frz { cls := .type "list", data := .seq vs.toArray } (.lst (ns.map V.int))) else none) ?_ (.inl (.inr ⟨_, if_pos rfl⟩)) ?_ (fun b n => if_neg n) fun o z => ?_
    · intro b
      by_cases z : b = a
      · exact .inr ⟨_, _, if_pos z⟩
      · exact .inl (if_neg z)
    · intro b u q
      by_cases z : b = a
      · subst z
        have q := (if_pos rfl).symm.trans q
        injection q with q
        subst q
        exact ⟨script, by rw [List.length_map]; exact short, vs, _, rel, script⟩
      · have q := (if_neg z).symm.trans q
        cases q
    · rw [kl] at z
      cases z
/-- the goal that the head leaves, from the law's promise; the script's numbers have at most 2 ^ 20 bits -/
theorem walkG {l : PySem.W.OpenLaw} {n k : Nat} {q : Program} {loose : List Str} {XP : (Str → Option Value) → Heap → Prop} {YP : World → Heap → Prop} {d : DefRec} {K : Params → PySem.W.Frag} {x : Str} (hn : l.most = some n) (hn2 : n ≤ sizeLine) (hdf : d.params.defaults = []) (room : Room k callerA)
    (hY : ∀ (w : World) (h : Heap), YP w h → (K w.params).In h)
    (F : ∀ (w : World) (mg : Str → Option Value) (fa : Addr) (h : Heap), (K w.params).In h → h.Ns mainGlobals mg → mg d.name = some (.ref fa) →
      ∃ fd : FuncData, (∀ (s : Shared) (u : Value), BindsTo s fd ⟨[u], []⟩ [(x, u)]) ∧ ∀ base : Heap, (K w.params).In base → base.Ns mainGlobals mg → FnG l.prog w (K w.params) mg base CX0 k fa fd [x] (fun vs H Q _ => ∃ (a : Addr) (ns : List Int), vs = [.ref a] ∧ SqL (K w.params) H a (ns.map V.int) ∧ ns.length ≤ n ∧ ∀ H', Q (.bl true) H')) :
    PySem.W.WalkO q loose XP YP l.row.toRowW d [] (fun f vs => PySem.call f vs) := by
  refine Att.attach_call hn hdf ?_
  intro w s₀ s₁ mg mb fa o pm cd doc a vs ns G Y _ _ _ hmg script whole short gens
  have kin := hY w _ Y
  obtain ⟨fd, bind, prom⟩ := F w mg fa _ kin G.T.g hmg
  obtain ⟨H, base, seq, kinB, nsB, env, fin⟩ := law_start (P := l.prog) (w := w) kin G.T.g G.T.b G.T.builtins G.T.nolimit gens script whole (Nat.le_trans short hn2)
  refine codeAny_mono ((prom base kinB nsB).run callerA [] s₁ H ⟨[.ref a], []⟩ [.ref a] [.ref a] (fun v _ => v = .bl true) (fun _ _ _ => False) ⟨room, rfl⟩ env (bind s₁ (.ref a)) (.cons rfl .nil) ⟨a, ns, rfl, seq, short, fun _ => rfl⟩) ?_
  intro r s2 out
  cases r with
  | error e => exact out.elim
  | ok flow =>
    cases flow with
    | ret u =>
      obtain ⟨⟨v, rv, z⟩, h1, h2, h3⟩ := fin (fun v => v = .bl true) u s2 out
      subst z
      obtain rfl : u = Value.bool true := rv
      exact ⟨rfl, h1, h2, h3⟩
    | next => exact out.elim
    | brk => exact out.elim
    | cont => exact out.elim
end Vx
/-! # third part: what a def computes, as a plain function with refusals -/
namespace Vx
open PySem PySem.Spec PyProof.Rows L2
inductive Rx (α : Type) where
  | ok (a : α)
  | er (e : Nat)
  | bad
def Rx.bind {α β : Type} (m : Rx α) (f : α → Rx β) : Rx β :=
  match m with
  | .ok a => f a
  | .er e => .er e
  | .bad => .bad
/-- what is wanted of an outcome -/
@[irreducible] def cW {α : Type} (m : Rx α) (K : α → Prop) (E : Nat → Prop) : Prop :=
  match m with
  | .ok a => K a
  | .er e => E e
  | .bad => False
def grd {α : Type} (p : Prop) [Decidable p] (m : Rx α) : Rx α := if p then m else .bad
/-- within a comprehension nothing may be raised -/
def noEr {α : Type} (m : Rx α) : Rx α :=
  match m with
  | .ok a => .ok a
  | _ => .bad
/-- what the clause does not name may not come -/
def tryR {α β : Type} (m : Rx α) (cs : List Nat) (f : α → Rx β) (h : Nat → Rx β) : Rx β :=
  match m with
  | .ok a => f a
  | .er e => if e ∈ cs then h e else .bad
  | .bad => .bad
def bnd {α β : Type} (a : α) (f : α → Rx β) : Rx β := f a
inductive Lp (σ ρ : Type) where
  | go (s : σ)
  | bk (s : σ)
  | rt (r : ρ)
def Lp.aft {σ ρ τ : Type} (l : Lp σ ρ) (kr : ρ → Rx τ) (k : σ → Rx τ) : Rx τ :=
  match l with
  | .go s => k s
  | .bk s => k s
  | .rt r => kr r
def forS {σ α : Type} : List α → σ → (σ → α → Rx σ) → Rx σ
  | [], s, _ => .ok s
  | x :: r, s, f => (f s x).bind fun s' => forS r s' f
def forR {σ α ρ : Type} : List α → σ → (σ → α → Rx (Lp σ ρ)) → Rx (Lp σ ρ)
  | [], s, _ => .ok (.go s)
  | x :: r, s, f => (f s x).bind fun l =>
    match l with
    | .go s' => forR r s' f
    | .bk s' => .ok (.go s')
    | .rt v => .ok (.rt v)
def whileR {σ ρ : Type} : Nat → σ → (σ → Rx (Lp σ ρ)) → Rx (Lp σ ρ)
  | 0, _, _ => .bad
  | n + 1, s, f => (f s).bind fun l =>
    match l with
    | .go s' => whileR n s' f
    | .bk s' => .ok (.go s')
    | .rt v => .ok (.rt v)
def mapA {α β : Type} : List α → List β → (α → Rx β) → Rx (List β)
  | [], acc, _ => .ok acc
  | x :: r, acc, f => grd (acc.length ≤ 1000000) ((f x).bind fun y => mapA r (acc ++ [y]) f)
def mapF {α β : Type} : List α → List β → (α → Rx (Option β)) → Rx (List β)
  | [], acc, _ => .ok acc
  | x :: r, acc, f => grd (acc.length ≤ 1000000) ((f x).bind fun y =>
    match y with
    | some z => mapF r (acc ++ [z]) f
    | none => mapF r acc f)
section
variable {α β γ σ ρ τ : Type} {K : α → Prop} {E : Nat → Prop}
theorem cW_ok {a : α} (h : cW (.ok a) K E) : K a := by
  unfold cW at h
  exact h
theorem cW_er {e : Nat} (h : cW (.er e : Rx α) K E) : E e := by
  unfold cW at h
  exact h
theorem cW_bad {C : Prop} (h : cW (.bad : Rx α) K E) : C := by
  unfold cW at h
  exact h.elim
theorem cW_mk {a : α} (h : K a) : cW (.ok a) K E := by
  unfold cW
  exact h
theorem cW_mkE {e : Nat} (h : E e) : cW (.er e : Rx α) K E := by
  unfold cW
  exact h
theorem cW_gen {m : Rx α} (h : cW m K E) : ∃ (K' : α → Prop) (E' : Nat → Prop), (∀ v, K' v → K v) ∧ (∀ e, E' e → E e) ∧ cW m K' E' := ⟨K, E, fun _ x => x, fun _ x => x, h⟩
theorem cW_grd {p : Prop} {dp : Decidable p} {m : Rx α} (h : cW (grd p m) K E) : p ∧ cW m K E := by
  unfold grd at h
  split at h
  · exact ⟨‹p›, h⟩
  · exact cW_bad h
theorem cW_pos {p : Prop} {dp : Decidable p} {a b : Rx α} (c : p) (h : cW (if p then a else b) K E) : cW a K E := by rwa [if_pos c] at h
theorem cW_neg {p : Prop} {dp : Decidable p} {a b : Rx α} (c : ¬ p) (h : cW (if p then a else b) K E) : cW b K E := by rwa [if_neg c] at h
theorem cW_call {m : Rx β} {f : β → Rx α} {K2 : β → Prop} {E2 : Nat → Prop} (h : cW (m.bind f) K E) (ho : ∀ v, cW (f v) K E → K2 v) (he : ∀ e, E e → E2 e) : cW m K2 E2 := by
  cases m with
  | ok a => exact cW_mk (ho a h)
  | er e => exact cW_mkE (he e (cW_er (α := α) h))
  | bad => exact cW_bad (α := α) h
theorem cW_push {m : Rx β} {f : β → Rx α} (h : cW (m.bind f) K E) : ∃ K2 : β → Prop, (∀ v, K2 v → cW (f v) K E) ∧ cW m K2 E := ⟨fun v => cW (f v) K E, fun _ x => x, cW_call h (fun _ x => x) fun _ x => x⟩
theorem cW_name {m : Rx α} (h : cW m K E) : ∃ K' : α → Prop, (∀ v, K' v → K v) ∧ cW m K' E := ⟨K, fun _ x => x, h⟩
theorem cW_noEr {m : Rx α} (h : cW (noEr m) K E) : cW m K (fun _ => False) := by
  cases m with
  | ok a => exact cW_mk (cW_ok (α := α) h)
  | er e => exact cW_bad (α := α) h
  | bad => exact cW_bad (α := α) h
theorem cW_try {m : Rx β} {cs : List Nat} {f : β → Rx α} {g : Nat → Rx α} {K2 : β → Prop} {E2 : Nat → Prop} (h : cW (tryR m cs f g) K E) (ho : ∀ v, cW (f v) K E → K2 v) (hc : ∀ e, e ∈ cs → cW (g e) K E → E2 e) : cW m K2 E2 := by
  cases m with
  | ok a => exact cW_mk (ho a h)
  | er e =>
    have h2 : cW (if e ∈ cs then g e else .bad) K E := h
    by_cases q : e ∈ cs
    · exact cW_mkE (hc e q (cW_pos q h2))
    · exact cW_bad (cW_neg q h2)
  | bad => exact cW_bad (α := α) h
theorem cW_bnd {a : β} {f : β → Rx α} (h : cW (bnd a f) K E) : cW (f a) K E := h
theorem cW_negB {b : Bool} {x y : Rx α} (c : b = false) (h : cW (if b = true then x else y) K E) : cW y K E := cW_neg (by rw [c]; decide) h
theorem cW_forS {xs : List β} {i : Nat} {x : β} {s : α} {f : α → β → Rx α} (hx : xs[i]? = some x) (h : cW (forS (xs.drop i) s f) K E) : cW (f s x) (fun s' => cW (forS (xs.drop (i + 1)) s' f) K E) E := by
  rw [List.drop_eq_getElem?_toList_append, hx] at h
  exact cW_call h (fun _ z => z) fun _ z => z
theorem cW_forS0 {xs : List β} {n : Nat} {s : α} {f : α → β → Rx α} (hn : n = xs.length) (h : cW (forS (xs.drop n) s f) K E) : K s := by
  subst hn
  rw [List.drop_length] at h
  exact cW_ok h
theorem cW_forR {K : Lp σ ρ → Prop} {xs : List β} {i : Nat} {x : β} {s : σ} {f : σ → β → Rx (Lp σ ρ)} (hx : xs[i]? = some x) (h : cW (forR (xs.drop i) s f) K E) :
    cW (f s x) (fun l => match l with | .go s' => cW (forR (xs.drop (i + 1)) s' f) K E | .bk s' => K (.go s') | .rt v => K (.rt v)) E := by
  rw [List.drop_eq_getElem?_toList_append, hx] at h
  refine cW_call h (fun l z => ?_) fun _ z => z
  cases l with
  | go s' => exact z
  | bk s' => exact cW_ok (K := K) (a := .go s') z
  | rt v => exact cW_ok (K := K) (a := .rt v) z
theorem cW_forR0 {K : Lp σ ρ → Prop} {xs : List β} {n : Nat} {s : σ} {f : σ → β → Rx (Lp σ ρ)} (hn : n = xs.length) (h : cW (forR (xs.drop n) s f) K E) : K (.go s) := by
  subst hn
  rw [List.drop_length] at h
  exact cW_ok h
theorem cW_whileR {K : Lp σ ρ → Prop} {m : Nat} {s : σ} {f : σ → Rx (Lp σ ρ)} (h : cW (whileR m s f) K E) :
    ∃ n, m = n + 1 ∧ cW (f s) (fun l => match l with | .go s' => cW (whileR n s' f) K E | .bk s' => K (.go s') | .rt v => K (.rt v)) E := by
  cases m with
  | zero => exact cW_bad h
  | succ n =>
    refine ⟨n, rfl, cW_call h (fun l z => ?_) fun _ z => z⟩
    cases l with
    | go s' => exact z
    | bk s' => exact cW_ok (K := K) (a := .go s') z
    | rt v => exact cW_ok (K := K) (a := .rt v) z
theorem cW_mapA {K : List α → Prop} {xs : List β} {acc : List α} {i : Nat} {x : β} {f : β → Rx α} (hx : xs[i]? = some x) (h : cW (mapA (xs.drop i) acc f) K E) :
    acc.length ≤ 1000000 ∧ cW (f x) (fun y => cW (mapA (xs.drop (i + 1)) (acc ++ [y]) f) K E) E := by
  rw [List.drop_eq_getElem?_toList_append, hx] at h
  obtain ⟨z, h⟩ := cW_grd h
  exact ⟨z, cW_call h (fun _ z => z) fun _ z => z⟩
theorem cW_mapA0 {K : List α → Prop} {xs : List β} {acc : List α} {n : Nat} {f : β → Rx α} (hn : n = xs.length) (h : cW (mapA (xs.drop n) acc f) K E) : K acc := by
  subst hn
  rw [List.drop_length] at h
  exact cW_ok h
theorem cW_mapF {K : List α → Prop} {xs : List β} {acc : List α} {i : Nat} {x : β} {f : β → Rx (Option α)} (hx : xs[i]? = some x) (h : cW (mapF (xs.drop i) acc f) K E) :
    acc.length ≤ 1000000 ∧ cW (f x) (fun y => match y with | some z => cW (mapF (xs.drop (i + 1)) (acc ++ [z]) f) K E | none => cW (mapF (xs.drop (i + 1)) acc f) K E) E := by
  rw [List.drop_eq_getElem?_toList_append, hx] at h
  obtain ⟨z, h⟩ := cW_grd h
  refine ⟨z, cW_call h (fun y z => ?_) fun _ z => z⟩
  cases y with
  | none => exact z
  | some w => exact z
theorem cW_mapF0 {K : List α → Prop} {xs : List β} {acc : List α} {n : Nat} {f : β → Rx (Option α)} (hn : n = xs.length) (h : cW (mapF (xs.drop n) acc f) K E) : K acc := by
  subst hn
  rw [List.drop_length] at h
  exact cW_ok h
end
/-- the numbers of a range -/
def rng (lo : Int) (n : Nat) : List Int := (List.range n).map fun (j : Nat) => lo + (j : Int)
theorem rng_get {lo : Int} {n i : Nat} (h : i < n) : (rng lo n)[i]? = some (lo + (i : Int)) := by
  unfold rng
  rw [List.getElem?_map, List.getElem?_range h] <;> rfl
theorem rng_len (lo : Int) (n : Nat) : (rng lo n).length = n := by
  unfold rng
  rw [List.length_map, List.length_range]

def rngD (lo : Int) (n : Nat) : List Int := (List.range n).map fun (j : Nat) => lo + (j : Int) * (-1)
theorem rngD_get {lo : Int} {n i : Nat} (h : i < n) : (rngD lo n)[i]? = some (lo + (i : Int) * (-1)) := by
  unfold rngD
  rw [List.getElem?_map, List.getElem?_range h] <;> rfl
theorem rngD_len (lo : Int) (n : Nat) : (rngD lo n).length = n := by
  unfold rngD
  rw [List.length_map, List.length_range]

/-! ### calls that may raise -/
/-- what a call with n values and keywords ks gives the parameters -/
structure Bnd (K : PySem.W.Frag) (fd : FuncData) (ps : List Str) (n : Nat) (ks : List Str) (g : List V → List V → List V) : Prop where
  to : ∀ (s : Shared) (us ws : List Value) (vs zs : List V), K.In s.heap → vs.length = n → zs.length = ks.length → Vals vs us → Vals zs ws → ∃ vv : List Value, BindsTo s fd ⟨us, ks.zip ws⟩ (ps.zip vv) ∧ Vals (g vs zs) vv
theorem Bnd.of_kbn {K : PySem.W.Frag} {fd : FuncData} {ps ks : List Str} {n : Nat} {g : List Value → List Value → List Value} {gV : List V → List V → List V} (b : KBn K fd ps n ks g gV) : Bnd K fd ps n ks gV :=
  ⟨fun s us ws vs zs X l1 l2 r rz => ⟨g us ws, b.to s us ws X (r.length.symm.trans l1) (rz.length.symm.trans l2), b.rel r rz⟩⟩
theorem Bnd.all {K : PySem.W.Frag} {fd : FuncData} {ps ks : List Str} {n : Nat} {g : List V → List V → List V} (h : ∀ (us ws : List Value) (vs zs : List V), vs.length = n → zs.length = ks.length → Vals vs us → Vals zs ws →
    ∃ vv : List Value, bindArgs fd ⟨us, ks.zip ws⟩ = pure (ps.zip vv) ∧ Vals (g vs zs) vv) : Bnd K fd ps n ks g :=
  ⟨fun s us ws vs zs _ l1 l2 r rz => by
    obtain ⟨vv, e, q⟩ := h us ws vs zs l1 l2 r rz
    exact ⟨vv, BindsTo.of_eq e, q⟩⟩
abbrev Pat := Nat × List Str × (List V → List V → List V)
def Bnd1 (K : PySem.W.Frag) (fd : FuncData) (ps : List Str) (p : Pat) : Prop := Bnd K fd ps p.1 p.2.1 p.2.2
section
variable {P : Program} {w : World} {K : PySem.W.Frag} {mg : Str → Option Value} {base : Heap}
/-- a def of the top, with the ways it is called -/
structure DefX (K : PySem.W.Frag) (mg : Str → Option Value) (x : Str) (st : Stmt) (ps : List Str) (pats : List Pat) : Prop where
  ex : ∃ (f : Addr) (fd : FuncData) (dvs : List V) (kws : List (Str × V)), FunD K x x (defArgs st) (defBody st) (defScope st) dvs kws f fd ∧ mg x = some (.ref f) ∧ ∀ p ∈ pats, Bnd1 K fd ps p
structure CalX (P : Program) (w : World) (K : PySem.W.Frag) (mg : Str → Option Value) (base : Heap) (k : Nat) (x : Str) (sp : Sp) (pats : List Pat) : Prop where
  ex : ∃ (f : Addr) (fd : FuncData) (ps : List Str), FnG P w K mg base (L2.CX P w) k f fd ps sp ∧ mg x = some (.ref f) ∧ PySem.W.keepIn K (.ref f) = true ∧ ∀ p ∈ pats, Bnd1 K fd ps p
abbrev BodyX (P : Program) (w : World) (K : PySem.W.Frag) (mg : Str → Option Value) (base : Heap) (x : Str) (st : Stmt) (N : List Str) (k : Nat) (sp : Sp) : Prop :=
  ∀ (f : Addr) (cdv : Value) (A : Around) (outer : List Env) (s : Shared) (H : Hp) (vs : List V) (Q : VK) (E : XK), RoomG k (A.deeper (envOfC x (defScope st) s.heap.objs.size f cdv)) → sp vs H Q E →
    ∃ t, PSs (cxOf (L2.CX P w) P w K mg base N x (defScope st) f cdv A outer s H E) (defBody st) t ∧ t { nx := fun _ H' => Q .non H', rt := Q } (start N vs) H
theorem DefX.ok {x : Str} {st : Stmt} {N ps : List Str} {pats : List Pat} {k : Nat} {sp : Sp} (D : DefX K mg x st ps pats) (S : FnScope N ps (defScope st)) (len : ∀ vs H Q E, sp vs H Q E → vs.length = ps.length)
    (hbody : BodyX P w K mg base x st N k sp) : CalX P w K mg base (k + 1) x sp pats := by
  obtain ⟨f, fd, dvs, kws, F, hm, b⟩ := D.ex
  exact ⟨f, fd, ps, FnG.body F S len (fun cdv A outer s H vs Q E hr h => hbody f cdv A outer s H vs Q E hr h), hm, F.kp, b⟩
end
section
variable {X : Cx} {k j n : Nat} {f : Addr} {fd : FuncData} {ps ks : List Str} {g : List V → List V → List V} {sp : Sp} {x : Str} {pos p : Pos} {e : Expr} {es : List Expr} {kws : List Keyword} {t tk : TA} {W : WX}
theorem run_X {pins : List (Addr × Obj)} {σ : L2.St} {H : Hp} {s : Shared} {Q : VK} {us ws : List Value} {vs zs : List V} (F : FnG X.prog X.w X.K X.mg X.base (L2.CX X.prog X.w) k f fd ps sp) (hr : RoomG k X.A) (hb : Bnd X.K fd ps n ks g) (tkW : Takes X W)
    (I : Inv X pins σ H s) (r : Vals vs us) (rz : Vals zs ws) (l1 : vs.length = n) (l2 : zs.length = ks.length) (h : sp (g vs zs) H Q (WE W σ)) :
    wpAny (model X.prog X.w) X.A (call (.ref f) us (ks.zip ws)) (EP X pins σ Q) X.xe s := by
  obtain ⟨vv, b, r2⟩ := hb.to s us ws vs zs I.kIn l1 l2 r rz
  refine wpAny_call (codeAny_mono (F.run X.A X.stack s H ⟨us, ks.zip ws⟩ vv (g vs zs) Q (WE W σ) hr I.env0 b r2 h) fun rr s' hq => ?_)
  cases rr with
  | error er => exact passAt tkW σ pins H s er s' I hq
  | ok fl =>
    cases fl with
    | ret u => exact I.after hq
    | next => exact hq.elim
    | brk => exact hq.elim
    | cont => exact hq.elim
/-- f(e, .., k = v, ..) -/
def tCallX (n m : Nat) (sp : Sp) (g : List V → List V → List V) (W : WX) (t tk : TA) : TE := fun σ H Q => t σ H fun vs H1 => tk σ H1 fun zs H2 => vs.length = n ∧ zs.length = m ∧ sp (g vs zs) H2 Q (WE W σ)
theorem vx_callX {pats : List Pat} (c : CalX X.prog X.w X.K X.mg X.base k x sp pats) (pt : Pat) (hpt : pt ∈ pats) (hr : RoomG j X.A) (hk : k ≤ j) (tkW : Takes X W) (hg : Gl X x) (ha : PA X (e :: es) t) (hkw : PK X kws tk)
    (hall : (backToKw pos (keywordEach kws X.env)).all (·.1.isSome) = true := by rfl) (hks : (backToKw pos (keywordEach kws X.env)).filterMap (·.1) = pt.2.1 := by rfl)
    (hdb : (x == ("__debug__" : Str)) = false := by decide) (he : starEach (e :: es) X.env = (false, eval e X.env) :: starEach es X.env := by rfl)
    (hpl : ((backTo pos (starEach (e :: es) X.env)).any (·.1) || (backToKw pos (keywordEach kws X.env)).any (·.1.isNone)) = false := by rfl) :
    PE X (.Call (.Name x p) (e :: es) kws pos) (tCallX pt.1 pt.2.1.length sp pt.2.2 W t tk) := by
  obtain ⟨f, fd, ps, F, hm, kp, b⟩ := c.ex
  refine ⟨fun pins s σ H Q I h => ?_⟩
  refine wpAny_Call_Name_kw (ld_glob I hg hm ?_ hdb)
  refine PySem.W.callWith_KW (h₀ := X.base) I.ok.mod.kin kp hall (thn (ha.run pos pins s σ H _ I h) fun us s1 ⟨vs, H1, I1, r, q⟩ => ?_) hpl he
  refine thn (hkw.run pos pins s1 σ H1 _ I1 q) fun ws s2 ⟨zs, H2, I2, rz, l1, l2, q2⟩ => ⟨I2.kIn, ?_⟩
  rw [hks]
  exact run_X F (hr.low hk) (b pt hpt) tkW I2 r rz l1 l2 q2
theorem vx_callX0 {pats : List Pat} (c : CalX X.prog X.w X.K X.mg X.base k x sp pats) (pt : Pat) (hpt : pt ∈ pats) (hr : RoomG j X.A) (hk : k ≤ j) (tkW : Takes X W) (hg : Gl X x) (hks : pt.2.1 = [] := by rfl)
    (hdb : (x == ("__debug__" : Str)) = false := by decide) : PE X (.Call (.Name x p) [] [] pos) (tCallX pt.1 pt.2.1.length sp pt.2.2 W tNil tNil) := by
  obtain ⟨f, fd, ps, F, hm, kp, b⟩ := c.ex
  refine ⟨fun pins s σ H Q I h => ?_⟩
  refine wpAny_Call_Name_kw (ld_glob I hg hm ?_ hdb)
  obtain ⟨l1, l2, q2⟩ := h
  have hz := run_X (us := []) (ws := []) F (hr.low hk) (b pt hpt) tkW I .nil .nil l1 l2 q2
  rw [hks] at hz
  exact PySem.W.callWith_K0 I.kIn kp hz
end
/-! ### borrowed things -/
theorem Sep.bM {M : List Addr} {H0 G0 G H : Hp} {O : List (Addr)} (S : Sep M H0 G0 G H O) : Same (hideL M H0) H := fun b o e => by
  by_cases h : b ∈ M
  · rw [hideL_in h] at e
    cases e
  · rw [hideL_out h] at e
    exact S.base b o e h
theorem b_ne {M : List Addr} {H0 G0 G H : Hp} {O : List Addr} {a b : Addr} {o : HO} (h : (hideL M H0) a = some o) (S : Sep M H0 G0 G H O) (hb : b ∈ O) : a ≠ b := fun z => by
  subst z
  rcases (S.ow a hb).2.2 with q | q
  · rw [hideL_in q] at h
    cases h
  · by_cases hM : a ∈ M
    · rw [hideL_in hM] at h
      cases h
    · rw [hideL_out hM, q] at h
      cases h
theorem hide0 {H : Hp} : hideL [] H = H := by
  funext b
  unfold hideL
  rw [if_neg List.not_mem_nil]
theorem hide_nil {H : Hp} {a : Addr} {o : HO} (h : H a = some o) : (hideL [] H) a = some o := by
  rw [hide0]
  exact h
theorem Rp.hide_nil {H : Hp} {v : V} {d : PyData} (h : Rp H v d) : Rp (hideL [] H) v d := by
  rw [hide0]
  exact h
theorem Sep.startM {M : List Addr} {G H : Hp} (e : Same G H) (hM : ∀ a ∈ M, H a ≠ none) (hG : ∀ a ∈ M, G a = none) : Sep M H G G H M :=
  ⟨fun _ _ e _ => e, hM, e, Same.refl _, fun _ _ e => e, fun a ha => ⟨hG a ha, hM a ha, .inl ha⟩⟩
theorem Sep.gno {M : List Addr} {H0 G0 G H : Hp} {O L : List Addr} (S : Sep M H0 G0 G H O) (h : ∀ a ∈ L, a ∈ O) : ∀ a ∈ L, G a = none := fun a ha => (S.ow a (h a ha)).1
theorem RpAll.ixD {α : Type} [Inhabited α] {f : α → PyData} {H : Hp} {vs : List V} {xs : List α} {k : Int} (r : RpAll H vs (xs.map f)) (h : -(xs.length : Int) ≤ k ∧ k < xs.length) : ∃ v, atI vs k = some v ∧ Rp H v (f (itD xs k)) := by
  obtain ⟨v, x, h1, h2, h3⟩ := RpAll.ix r h
  refine ⟨v, h1, ?_⟩
  unfold itD
  rw [h2]
  exact h3
theorem tru_all {α : Type} [DecidableEq α] {f : α → PyData} {H : Hp} {vs : List V} {xs : List α} (r : RpAll H vs (xs.map f)) : (!decide (xs = [])) = !vs.isEmpty := by
  have h := r.len
  rw [List.length_map] at h
  cases xs <;> cases vs <;> simp_all
theorem ix_nn {α : Type} {xs : List α} {k : Int} (h0 : 0 ≤ k) (h1 : k < xs.length) : -(xs.length : Int) ≤ k ∧ k < xs.length := ⟨by omega, h1⟩
theorem all_nilQ {α : Type} {P : α → Prop} : ∀ x ∈ ([] : List α), P x := fun x h => by cases h
theorem all_consQ {α : Type} {P : α → Prop} {a : α} {l : List α} (h : P a) (t : ∀ x ∈ l, P x) : ∀ x ∈ a :: l, P x := fun x hx => by
  rcases List.mem_cons.mp hx with rfl | hx
  · exact h
  · exact t x hx
theorem mem_one {a b : Nat} (h : a ∈ [b]) : a = b := by simpa using h
theorem mem_cons2 {a b : Nat} {l : List Nat} (h : a ∈ b :: l) : a = b ∨ a ∈ l := List.mem_cons.mp h
theorem len0 {α : Type} {l : List α} (h : l.length = 0) : l = [] := List.length_eq_zero_iff.mp h
theorem len1 {α : Type} {l : List α} (h : l.length = 1) : ∃ a, l = [a] := List.length_eq_one_iff.mp h
theorem len_s {α : Type} {l : List α} {n : Nat} (h : l.length = n + 1) : ∃ a r, l = a :: r ∧ r.length = n := by
  cases l with
  | nil => cases h
  | cons a r => exact ⟨a, r, rfl, Nat.succ.inj h⟩
theorem len2 {α : Type} {l : List α} (h : l.length = 2) : ∃ a b, l = [a, b] := by
  obtain ⟨a, r, rfl, h2⟩ := len_s h
  obtain ⟨b, rfl⟩ := len1 h2
  exact ⟨a, b, rfl⟩
theorem len3 {α : Type} {l : List α} (h : l.length = 3) : ∃ a b c, l = [a, b, c] := by
  obtain ⟨a, r, rfl, h2⟩ := len_s h
  obtain ⟨b, c, rfl⟩ := len2 h2
  exact ⟨a, b, c, rfl⟩
theorem len4 {α : Type} {l : List α} (h : l.length = 4) : ∃ a b c d, l = [a, b, c, d] := by
  obtain ⟨a, r, rfl, h2⟩ := len_s h
  obtain ⟨b, c, d, rfl⟩ := len3 h2
  exact ⟨a, b, c, d, rfl⟩
theorem len5 {α : Type} {l : List α} (h : l.length = 5) : ∃ a b c d e, l = [a, b, c, d, e] := by
  obtain ⟨a, r, rfl, h2⟩ := len_s h
  obtain ⟨b, c, d, e, rfl⟩ := len4 h2
  exact ⟨a, b, c, d, e, rfl⟩
theorem len6 {α : Type} {l : List α} (h : l.length = 6) : ∃ a b c d e f, l = [a, b, c, d, e, f] := by
  obtain ⟨a, r, rfl, h2⟩ := len_s h
  obtain ⟨b, c, d, e, f, rfl⟩ := len5 h2
  exact ⟨a, b, c, d, e, f, rfl⟩
theorem len7 {α : Type} {l : List α} (h : l.length = 7) : ∃ a b c d e f g, l = [a, b, c, d, e, f, g] := by
  obtain ⟨a, r, rfl, h2⟩ := len_s h
  obtain ⟨b, c, d, e, f, g, rfl⟩ := len6 h2
  exact ⟨a, b, c, d, e, f, g, rfl⟩
def rLenTK (K : PySem.W.Frag) : List V → Hp → VK → Prop := fun xs H Q => ∃ (p : Addr) (vs : List V) (n : Nat), xs = [.ref p] ∧ SqT K H p vs ∧ vs.length = n ∧ Q (.int (n : Int)) H
theorem call_lenTK {X : Cx} {K : PySem.W.Frag} (hK : X.K = K := by rfl) : CallR X (.builtin "len") (rLenTK K) := by
  subst hK
  intro pins s σ H xs us Q I r h
  obtain ⟨p, vs, n, rfl, hs, hn, q⟩ := h
  exact call_len_seq pins s σ H _ us Q I r ⟨p, _, rfl, Or.inr hs, by rw [hn]; exact q⟩
theorem exm_mk {K : PySem.W.Frag} {S C : Addr} (h1 : PySem.W.subIn K (.ref C) (.type "BaseException") = some true) (h2 : PySem.W.isClsIn K C = true) (h3 : PySem.W.typeIn K (.ref C) = some (.type "type")) (h4 : PySem.W.subIn K (.ref S) (.ref C) = some true) :
    PySem.W.exmOne K (.ref S) (.ref C) = some true := by
  unfold PySem.W.isClsIn at h2
  unfold PySem.W.exmOne
  unfold PySem.W.kitCls
  simp only [h1, h2, h3, h4, beq_self_eq_true, Bool.and_self, if_true]
theorem kit_mk {K : PySem.W.Frag} {S C : Addr} (h2 : PySem.W.isClsIn K C = true) (h3 : PySem.W.typeIn K (.ref C) = some (.type "type")) (h4 : PySem.W.subIn K (.ref S) (.ref C) = some true) :
    PySem.W.kitOne K (.ref S) (.ref C) = some true := by
  unfold PySem.W.isClsIn at h2
  unfold PySem.W.kitOne
  split
  · rfl
  · unfold PySem.W.kitCls
    simp only [h2, h3, h4, beq_self_eq_true, Bool.and_self, if_true]
/-- isinstance(e, C) of the exception in hand -/
def rIsX (K : PySem.W.Frag) (a : Addr) (cls : Value) (d : Option Addr) : List V → Hp → VK → Prop := fun xs H Q => ∃ (D C : Addr) (b : Bool), cls = .ref D ∧ d = none ∧ ExcC K D ∧ xs = [.ref a, .ref C] ∧ PySem.W.kitOne K (.ref D) (.ref C) = some b ∧ Q (.bl b) H
theorem call_isX {X : Cx} {K : PySem.W.Frag} {a : Addr} {cls : Value} {d : Option Addr} {oe : Obj} {pn : List (Addr × Obj)} (hz : Zc cls d oe) (hf : ∃ vs, oe.data = .fields vs) (hK : X.K = K := by rfl) : CallR (X.suite a ((a, oe) :: pn)) (.builtin "isinstance") (rIsX K a cls d) := by
  subst hK
  intro pins s σ H xs us Q I r h
  obtain ⟨D, C, b, rfl, rfl, c, rfl, e, q⟩ := h
  exact call_isE c hz hf pins s σ H _ us Q I r ⟨_, _, b, rfl, fun u z => z, e, q⟩
/-! ### unpacking a list -/
section
variable {X : Cx} {K : PySem.W.Frag} {pos : Pos}
theorem pg_seqK {es : List Expr} {k : Nat} {t : TGs} {n : Nat} (h : PGs X es t) (hc : X.calm = true := by rfl) (hK : X.K = K := by rfl)
    (hn : (assignEach es X.env).length = n := by rfl) (hst : (assignEach es X.env).findIdx? (·.1) = none := by rfl) : PG X (.Tuple es k pos) (gLst K n t) := hK ▸ pg_lst hc h hn hst
end
theorem SqL.cast {K : PySem.W.Frag} {H : Hp} {a : Addr} {xs ys : List V} (h : SqL K H a xs) (e : xs = ys) : SqL K H a ys := e ▸ h
section
variable {α : Type} [Inhabited α] {f : α → V}
theorem unp2 {xs : List α} (h : xs.length = 2) : xs.map f = [f (itD xs 0), f (itD xs 1)] := by
  obtain ⟨a, b, rfl⟩ := len2 h
  rfl
theorem unp3 {xs : List α} (h : xs.length = 3) : xs.map f = [f (itD xs 0), f (itD xs 1), f (itD xs 2)] := by
  obtain ⟨a, b, c, rfl⟩ := len3 h
  rfl
theorem unp4 {xs : List α} (h : xs.length = 4) : xs.map f = [f (itD xs 0), f (itD xs 1), f (itD xs 2), f (itD xs 3)] := by
  obtain ⟨a, b, c, d, rfl⟩ := len4 h
  rfl
theorem unp6 {xs : List α} (h : xs.length = 6) : xs.map f = [f (itD xs 0), f (itD xs 1), f (itD xs 2), f (itD xs 3), f (itD xs 4), f (itD xs 5)] := by
  obtain ⟨a, b, c, d, e, g, rfl⟩ := len6 h
  rfl
theorem unp8 {xs : List α} (h : xs.length = 8) : xs.map f = [f (itD xs 0), f (itD xs 1), f (itD xs 2), f (itD xs 3), f (itD xs 4), f (itD xs 5), f (itD xs 6), f (itD xs 7)] := by
  obtain ⟨a, r, rfl, h2⟩ := len_s h
  obtain ⟨b, c, d, e, g, i, j, rfl⟩ := len7 h2
  rfl
end
/-! ### classes -/
section
variable {P : Program} {w : World} {K : PySem.W.Frag} {mg : Str → Option Value} {base : Heap}
structure MethX (K : PySem.W.Frag) (C : Addr) (q m : Str) (st : Stmt) (ps : List Str) (pats : List Pat) : Prop where
  ex : ∃ (f : Addr) (fd : FuncData) (dvs : List V) (kws : List (Str × V)), FunD K m q (defArgs st) (defBody st) (defScope st) dvs kws f fd ∧ Meth K C m f ∧ ∀ p ∈ pats, Bnd1 K fd ps p
structure InitX (K : PySem.W.Frag) (mg : Str → Option Value) (C : Addr) (cn q : Str) (st : Stmt) (ps : List Str) (pats : List Pat) : Prop where
  ex : ∃ (f : Addr) (fd : FuncData) (dvs : List V) (kws : List (Str × V)), FunD K "__init__" q (defArgs st) (defBody st) (defScope st) dvs kws f fd ∧ Mk K C f ∧ mg cn = some (.ref C) ∧ ∀ p ∈ pats, Bnd1 K fd ps p
structure PropX (K : PySem.W.Frag) (C : Addr) (q m : Str) (st : Stmt) (ps : List Str) (pats : List Pat) : Prop where
  ex : ∃ (r f : Addr) (fd : FuncData) (dvs : List V) (kws : List (Str × V)), FunD K m q (defArgs st) (defBody st) (defScope st) dvs kws f fd ∧ PropOf K C m r f ∧ Binds K fd ps []
structure MetX (P : Program) (w : World) (K : PySem.W.Frag) (mg : Str → Option Value) (base : Heap) (k : Nat) (C : Addr) (m : Str) (sp : Sp) (pats : List Pat) : Prop where
  ex : ∃ (f : Addr) (fd : FuncData) (ps : List Str), Cls K C ∧ Meth K C m f ∧ FnG P w K mg base (L2.CX P w) k f fd ps sp ∧ ∀ p ∈ pats, Bnd1 K fd ps p
structure PropY (P : Program) (w : World) (K : PySem.W.Frag) (mg : Str → Option Value) (base : Heap) (k : Nat) (C : Addr) (m : Str) (sp : Sp) (pats : List Pat) : Prop where
  ex : ∃ (q f : Addr) (fd : FuncData) (ps : List Str), Cls K C ∧ PropOf K C m q f ∧ FnG P w K mg base (L2.CX P w) k f fd ps sp ∧ Binds K fd ps []
structure MakX (P : Program) (w : World) (K : PySem.W.Frag) (mg : Str → Option Value) (base : Heap) (k : Nat) (cn : Str) (C : Addr) (sp : Sp) (pats : List Pat) : Prop where
  ex : ∃ (f : Addr) (fd : FuncData) (ps : List Str), Mk K C f ∧ FnG P w K mg base (L2.CX P w) k f fd ps sp ∧ mg cn = some (.ref C) ∧ ∀ p ∈ pats, Bnd1 K fd ps p
theorem MethX.ok {C : Addr} {q m : Str} {st : Stmt} {N ps : List Str} {pats : List Pat} {k : Nat} {sp : Sp} (D : MethX K C q m st ps pats) (c : Cls K C) (S : FnScope N ps (defScope st)) (len : ∀ vs H Q E, sp vs H Q E → vs.length = ps.length)
    (hbody : BodyX P w K mg base q st N k sp) : MetX P w K mg base (k + 1) C m sp pats := by
  obtain ⟨f, fd, dvs, kws, F, me, b⟩ := D.ex
  exact ⟨f, fd, ps, c, me, FnG.body F S len (fun cdv A outer s H vs Q E hr h => hbody f cdv A outer s H vs Q E hr h), b⟩
theorem PropX.ok {C : Addr} {q m : Str} {st : Stmt} {N ps : List Str} {pats : List Pat} {k : Nat} {sp : Sp} (D : PropX K C q m st ps pats) (c : Cls K C) (S : FnScope N ps (defScope st)) (len : ∀ vs H Q E, sp vs H Q E → vs.length = ps.length)
    (hbody : BodyX P w K mg base q st N k sp) : PropY P w K mg base (k + 1) C m sp pats := by
  obtain ⟨r, f, fd, dvs, kws, F, me, b⟩ := D.ex
  exact ⟨r, f, fd, ps, c, me, FnG.body F S len (fun cdv A outer s H vs Q E hr h => hbody f cdv A outer s H vs Q E hr h), b⟩
theorem InitX.ok {C : Addr} {cn q : Str} {st : Stmt} {N ps : List Str} {pats : List Pat} {k : Nat} {sp : Sp} (D : InitX K mg C cn q st ps pats) (S : FnScope N ps (defScope st)) (len : ∀ vs H Q E, sp vs H Q E → vs.length = ps.length)
    (hbody : BodyX P w K mg base q st N k sp) : MakX P w K mg base (k + 1) cn C sp pats := by
  obtain ⟨f, fd, dvs, kws, F, me, hm, b⟩ := D.ex
  exact ⟨f, fd, ps, me, FnG.body F S len (fun cdv A outer s H vs Q E hr h => hbody f cdv A outer s H vs Q E hr h), hm, b⟩
end
theorem cW_callN {α β : Type} {m : Rx β} {f : β → Rx α} {K : α → Prop} {E : Nat → Prop} {K2 : β → Prop} {E2 : Nat → Prop} (h : cW ((noEr m).bind f) K E) (ho : ∀ v, cW (f v) K E → K2 v) (_ : True) : cW m K2 E2 := by
  cases m with
  | ok a => exact cW_mk (ho a h)
  | er e => exact cW_bad (α := α) h
  | bad => exact cW_bad (α := α) h
section
variable {X : Cx} {k j n : Nat} {f C : Addr} {fd : FuncData} {ps ks : List Str} {g : List V → List V → List V} {sp : Sp} {x m : Str} {pos p apos : Pos} {e o : Expr} {es : List Expr} {kws : List Keyword} {ta : TE} {t tk : TA} {W : WX}
theorem run_mkX {pins : List (Addr × Obj)} {σ : L2.St} {H : Hp} {s : Shared} {Q : VK} {us ws : List Value} {vs zs : List V} (M : Mk X.K C f) (F : FnG X.prog X.w X.K X.mg X.base (L2.CX X.prog X.w) k f fd ps sp) (hr : RoomG (k + 1) X.A) (hb : Bnd X.K fd ps n ks g) (tkW : Takes X W)
    (I : Inv X pins σ H s) (r : Vals vs us) (rz : Vals zs ws) (l1 : vs.length + 1 = n) (l2 : zs.length = ks.length)
    (h : ∀ x dx, H x = none → H dx = none → dx ≠ x → sp (g (.ref x :: vs) zs) (upd (upd H dx (.own x)) x (.ins C dx [])) (fun v H2 => v = .non ∧ Q (.ref x) H2) (WE W σ)) :
    wpAny (model X.prog X.w) X.A (call (.ref C) us (ks.zip ws)) (EP X pins σ Q) X.xe s := by
  have hq := h (s.heap.objs.size + 1) s.heap.objs.size (I.hok.fresh (Nat.le_succ _)) (I.hok.fresh (Nat.le_refl _)) (Nat.ne_of_lt (Nat.lt_succ_self _))
  have I2 := Inv.made (C := C) I
  have r1 : Vals (V.ref (s.heap.objs.size + 1) :: vs) (Value.ref (s.heap.objs.size + 1) :: us) := .cons rfl r
  obtain ⟨vv, b, r2⟩ := hb.to _ (Value.ref (s.heap.objs.size + 1) :: us) ws (V.ref (s.heap.objs.size + 1) :: vs) zs I2.kIn (by rw [List.length_cons, l1]) l2 r1 rz
  refine wpAny_call (make_map (f := f) I.kIn M.makes M.init (beq_iff_eq.mp M.fn) (codeAny_mono (F.run _ X.stack _ _ ⟨Value.ref (s.heap.objs.size + 1) :: us, ks.zip ws⟩ vv _ _ (WE W σ) (hr.made C us (ks.zip ws))
    (I2.env0.make C us (ks.zip ws)) b r2 hq) fun r s' hq' => ?_))
  cases r with
  | error e => exact passAt tkW σ pins _ _ e s' I2 hq'
  | ok fl =>
    cases fl with
    | ret u =>
      obtain ⟨v, H', I3, rv, ev, q3⟩ := I2.after hq'
      subst ev
      exact ⟨rv, ⟨V.ref (s.heap.objs.size + 1), H', I3, rfl, q3⟩⟩
    | next => exact False.elim hq'
    | brk => exact False.elim hq'
    | cont => exact False.elim hq'
/-- C(e, .., k = v, ..) -/
def tMakeX (C : Addr) (n m : Nat) (sp : Sp) (g : List V → List V → List V) (W : WX) (t tk : TA) : TE := fun σ H Q => t σ H fun vs H1 => tk σ H1 fun zs H2 => vs.length + 1 = n ∧ zs.length = m ∧ ∀ x dx, H2 x = none → H2 dx = none → dx ≠ x →
  sp (g (.ref x :: vs) zs) (upd (upd H2 dx (.own x)) x (.ins C dx [])) (fun v H3 => v = .non ∧ Q (.ref x) H3) (WE W σ)
theorem vx_makeX {pats : List Pat} (c : MakX X.prog X.w X.K X.mg X.base k x C sp pats) (pt : Pat) (hpt : pt ∈ pats) (hr : RoomG j X.A) (hk : k + 1 ≤ j) (tkW : Takes X W) (hg : Gl X x) (ha : PA X (e :: es) t) (hkw : PK X kws tk)
    (hall : (backToKw pos (keywordEach kws X.env)).all (·.1.isSome) = true := by rfl) (hks : (backToKw pos (keywordEach kws X.env)).filterMap (·.1) = pt.2.1 := by rfl) (hdb : (x == ("__debug__" : Str)) = false := by decide)
    (he : starEach (e :: es) X.env = (false, eval e X.env) :: starEach es X.env := by rfl) (hpl : ((backTo pos (starEach (e :: es) X.env)).any (·.1) || (backToKw pos (keywordEach kws X.env)).any (·.1.isNone)) = false := by rfl) :
    PE X (.Call (.Name x p) (e :: es) kws pos) (tMakeX C pt.1 pt.2.1.length sp pt.2.2 W t tk) := by
  obtain ⟨f, fd, ps, M, F, hm, b⟩ := c.ex
  refine ⟨fun pins s σ H Q I h => ?_⟩
  refine wpAny_Call_Name_kw (ld_glob I hg hm ?_ hdb)
  refine PySem.W.callWith_KW (h₀ := X.base) I.ok.mod.kin M.kp hall (thn (ha.run pos pins s σ H _ I h) fun us s1 ⟨vs, H1, I1, r, q⟩ => ?_) hpl he
  refine thn (hkw.run pos pins s1 σ H1 _ I1 q) fun ws s2 ⟨zs, H2, I2, rz, l1, l2, q2⟩ => ⟨I2.kIn, ?_⟩
  rw [hks]
  exact run_mkX M F (hr.low hk) (b pt hpt) tkW I2 r rz l1 l2 q2
theorem vx_makeX0 {pats : List Pat} (c : MakX X.prog X.w X.K X.mg X.base k x C sp pats) (pt : Pat) (hpt : pt ∈ pats) (hr : RoomG j X.A) (hk : k + 1 ≤ j) (tkW : Takes X W) (hg : Gl X x) (hks : pt.2.1 = [] := by rfl)
    (hdb : (x == ("__debug__" : Str)) = false := by decide) : PE X (.Call (.Name x p) [] [] pos) (tMakeX C pt.1 pt.2.1.length sp pt.2.2 W tNil tNil) := by
  obtain ⟨f, fd, ps, M, F, hm, b⟩ := c.ex
  refine ⟨fun pins s σ H Q I h => ?_⟩
  refine wpAny_Call_Name_kw (ld_glob I hg hm ?_ hdb)
  obtain ⟨l1, l2, q2⟩ := h
  have hz := run_mkX (us := []) (ws := []) M F (hr.low hk) (b pt hpt) tkW I .nil .nil l1 l2 q2
  rw [hks] at hz
  exact PySem.W.callWith_K0 I.kIn M.kp hz
/-- o.m(e, .., k = v, ..) -/
def tMethX (C : Addr) (m : Str) (n mm : Nat) (sp : Sp) (g : List V → List V → List V) (W : WX) (ta : TE) (t tk : TA) : TE := fun σ H Q => ta σ H fun x H1 => ∃ a dx fs, x = .ref a ∧ H1 a = some (.ins C dx fs) ∧ fs.lookup m = none ∧
  t σ H1 fun vs H2 => tk σ H2 fun zs H3 => (x :: vs).length = n ∧ zs.length = mm ∧ sp (g (x :: vs) zs) H3 Q (WE W σ)
theorem vx_methX {pats : List Pat} {pl : Sem Bool} (c : MetX X.prog X.w X.K X.mg X.base k C m sp pats) (pt : Pat) (hpt : pt ∈ pats) (hr : RoomG j X.A) (hk : k ≤ j) (tkW : Takes X W) (he : PE X o ta) (ha : PA X (e :: es) t) (hkw : PK X kws tk)
    (hall : (backToKw pos (keywordEach kws X.env)).all (·.1.isSome) = true := by rfl) (hks : (backToKw pos (keywordEach kws X.env)).filterMap (·.1) = pt.2.1 := by rfl)
    (hst : starEach (e :: es) X.env = (false, eval e X.env) :: starEach es X.env := by rfl) (hpl : ((backTo pos (starEach (e :: es) X.env)).any (·.1) || (backToKw pos (keywordEach kws X.env)).any (·.1.isNone)) = false := by rfl)
    (ht : eval (.Call (.Attribute o m apos) (e :: es) kws pos) X.env = (do
      let ov ← eval o X.env
      standAt apos.atName
      let (f, first) ← holding [ov] (getMethod ov m pl)
      callWith pos f first (backTo pos (starEach (e :: es) X.env)) (backToKw pos (keywordEach kws X.env))) := by rfl) :
    PE X (.Call (.Attribute o m apos) (e :: es) kws pos) (tMethX C m pt.1 pt.2.1.length sp pt.2.2 W ta t tk) := by
  obtain ⟨f, fd, ps, hc, hm, F, b⟩ := c.ex
  refine ⟨fun pins s σ H Q I h => ?_⟩
  refine PySem.W.methodCall_KW (pl := pl) (thn (he.run pins s σ H _ I h) fun u s1 ⟨x, H1, I1, rx, a, dx, fs, ex, ea, l, q⟩ => ?_) ht
  subst ex
  obtain rfl : u = Value.ref a := rx
  refine getmeth_ok I1 ea hc hm l ?_
  refine PySem.W.callWith_KW (first := [.ref a]) (h₀ := X.base) I.ok.mod.kin hm.kp hall (thn (ha.run pos pins s1 σ H1 _ I1 q) fun us s2 ⟨vs, H2, I2, r, q2⟩ => ?_) hpl hst
  refine thn (hkw.run pos pins s2 σ H2 _ I2 q2) fun ws s3 ⟨zs, H3, I3, rz, l1, l2, q3⟩ => ⟨I3.kIn, ?_⟩
  rw [hks]
  exact run_X (us := .ref a :: us) (vs := .ref a :: vs) F (hr.low hk) (b pt hpt) tkW I3 (.cons rfl r) rz l1 l2 q3
theorem vx_methX0 {pats : List Pat} {pl : Sem Bool} (c : MetX X.prog X.w X.K X.mg X.base k C m sp pats) (pt : Pat) (hpt : pt ∈ pats) (hr : RoomG j X.A) (hk : k ≤ j) (tkW : Takes X W) (he : PE X o ta) (hks : pt.2.1 = [] := by rfl)
    (ht : eval (.Call (.Attribute o m apos) [] [] pos) X.env = (do
      let ov ← eval o X.env
      standAt apos.atName
      let (f, first) ← holding [ov] (getMethod ov m pl)
      callWith pos f first (backTo pos (starEach [] X.env)) (backToKw pos (keywordEach [] X.env))) := by rfl) :
    PE X (.Call (.Attribute o m apos) [] [] pos) (tMethX C m pt.1 pt.2.1.length sp pt.2.2 W ta tNil tNil) := by
  obtain ⟨f, fd, ps, hc, hm, F, b⟩ := c.ex
  refine ⟨fun pins s σ H Q I h => ?_⟩
  refine PySem.W.methodCall_KW (pl := pl) (thn (he.run pins s σ H _ I h) fun u s1 ⟨x, H1, I1, rx, a, dx, fs, ex, ea, l, q⟩ => ?_) ht
  subst ex
  obtain rfl : u = Value.ref a := rx
  refine getmeth_ok I1 ea hc hm l ?_
  obtain ⟨l1, l2, q3⟩ := q
  have hz := run_X (us := [.ref a]) (vs := [.ref a]) (ws := []) F (hr.low hk) (b pt hpt) tkW I1 (.cons rfl .nil) .nil l1 l2 q3
  rw [hks] at hz
  exact PySem.W.callWith_K0 (first := [.ref a]) I1.kIn hm.kp hz
theorem vx_propX {pats : List Pat} (c : PropY X.prog X.w X.K X.mg X.base k C m sp pats) (hr : RoomG j X.A) (hk : k + 1 ≤ j) (he : PE X o ta) (hab : attributeBase o m X.env (eval o X.env) = eval o X.env := by rfl) : PE X (.Attribute o m pos) (tProp C sp [] E0 ta) := by
  obtain ⟨q, f, fd, ps, cls, prop, F, bind⟩ := c.ex
  constructor
  intro pins s σ H Q I h
  refine attr_of hab (thn (he.run pins s σ H _ I h) ?_)
  rintro u s1 ⟨x, H1, I1, rx, a, dx, fs, rfl, ea, prom⟩
  cases rx
  obtain ⟨mA, O, _⟩ := ins_get I1.hok ea
  obtain ⟨od, J, _⟩ := O.look
  obtain ⟨rest, rec_⟩ := prop.rec_
  have short : [Value.ref a].length = ps.length := (F.len _ _ _ _ prom).symm ▸ rfl
  have isCls : (PySem.W.clsIn X.K C).isSome = true := by
    obtain ⟨cd, e, _⟩ := PySem.W.any_some cls.hd
    rw [e]
    rfl
  refine PySem.W.get_bind I1.kIn J (PySem.W.plainGet_of (cls.get m)).1 (PySem.W.findObj_data isCls prop.at_ prop.get prop.tak) (PySem.W.plainGet_of (cls.get m)).2 (wpAny_call (PySem.W.prop_get (s := { s1 with toks := s1.toks + 1 }) I1.kIn rec_ ?_))
  have I2 := I1.tok (s1.toks + 1)
  refine codeAny_mono (F.run X.A.in1 X.stack _ H1 ⟨[.ref a], []⟩ [.ref a] [.ref a] Q E0 (hr.low hk).one I2.env0.in1 (by simpa using bind _ [.ref a] I2.kIn (by simpa using short)) (.cons rfl .nil) prom) ?_
  intro r s2 out
  cases r with
  | error er => exact (passL (X := X.nox) pins σ H1 _ er s2 (I2.wish _) out).elim
  | ok flow =>
    cases flow with
    | ret v =>
      obtain ⟨y, H2, I3, ry, qy⟩ := I2.after out
      have given := PySem.W.handedOut_of (handed_of ry)
      show wpAny _ _ (handedOut v) _ _ s2
      rw [given]
      exact wpAny_pure ⟨y, H2, I3, ry, qy⟩
    | next => exact out.elim
    | brk => exact out.elim
    | cont => exact out.elim
end
theorem Sep.news {M : List Addr} {H0 G0 G H H' : Hp} {O : List Addr} (S : Sep M H0 G0 G H O) (e : Same H H') (L : List Addr) (hL : ∀ a ∈ L, H a = none ∧ H' a ≠ none ∧ H0 a = none) : Sep M H0 G0 G H' (L ++ O) := by
  have S2 := S.same e
  refine ⟨S2.base, S2.pm, S2.sG, S2.g0, S2.gn, fun a ha => ?_⟩
  rcases List.mem_append.mp ha with h | h
  · obtain ⟨h1, h2, h3⟩ := hL a h
    exact ⟨S.gfree h1, h2, .inr h3⟩
  · exact S2.ow a h
theorem vv_chain {r r' : R2} {ta tb tc : TE} {σ : L2.St} {H : Hp} {x y z : V} {a b : Bool} (ha : Val ta σ H x) (hb : Val tb σ H y) (hc : Val tc σ H z) (h1 : ∀ Q : VK, Q (.bl a) H → r x y H Q) (h2 : ∀ Q : VK, Q (.bl b) H → r' y z H Q) :
    Val (tChain r r' ta tb tc) σ H (.bl (a && b)) := fun Q q => ha _ (hb _ (h1 _ ⟨a, rfl, by
  cases a with
  | true =>
    rw [if_pos rfl]
    exact hc _ (h2 _ q)
  | false =>
    rw [if_neg Bool.false_ne_true]
    exact q⟩))
/-! ### constants that are tuples, lists backwards, zip -/
theorem inV_ints (x : Int) : ∀ xs : List Int, inV (V.int x) (xs.map V.int) = decide (x ∈ xs)
  | [] => by simp [inV]
  | y :: r => by
    have h := inV_ints x r
    unfold inV at h ⊢
    rw [List.map_cons, List.any_cons, h]
    by_cases c : x = y
    · subst c
      simp [eqV]
    · simp [eqV, c, Ne.symm c]
theorem flat_ints : ∀ xs : List Int, (xs.map V.int).all flatV = true
  | [] => rfl
  | _ :: r => flat_ints r
def rInI (K : PySem.W.Frag) : R2 := fun x y H Q => ∃ (i : Int) (p : Addr) (xs : List Int), x = .int i ∧ y = .ref p ∧ (SqL K H p (xs.map V.int) ∨ SqT K H p (xs.map V.int)) ∧ Q (.bl (decide (i ∈ xs))) H
def rNotInI (K : PySem.W.Frag) : R2 := fun x y H Q => ∃ (i : Int) (p : Addr) (xs : List Int), x = .int i ∧ y = .ref p ∧ (SqL K H p (xs.map V.int) ∨ SqT K H p (xs.map V.int)) ∧ Q (.bl (!decide (i ∈ xs))) H
theorem op_inI {X : Cx} {K : PySem.W.Frag} (hK : X.K = K := by rfl) : OpR X (compareOp .In) (rInI K) := by
  subst hK
  intro pins s σ H x y v u Q I rx ry h
  obtain ⟨i, p, xs, rfl, rfl, hs, q⟩ := h
  refine op_in_seq pins s σ H _ _ v u Q I rx ry ⟨p, _, rfl, hs, rfl, flat_ints xs, ?_⟩
  rw [if_neg Bool.false_ne_true, inV_ints]
  exact q
theorem op_notInI {X : Cx} {K : PySem.W.Frag} (hK : X.K = K := by rfl) : OpR X (compareOp .NotIn) (rNotInI K) := by
  subst hK
  intro pins s σ H x y v u Q I rx ry h
  obtain ⟨i, p, xs, rfl, rfl, hs, q⟩ := h
  refine op_notIn_seq pins s σ H _ _ v u Q I rx ry ⟨p, _, rfl, hs, rfl, flat_ints xs, ?_⟩
  rw [if_pos rfl, inV_ints]
  exact q
theorem pe_revLK {X : Cx} {K : PySem.W.Frag} {e : Expr} {te : TE} {k : Nat} {p1 p2 p3 pos : Pos} (he : PE X e te) (hK : X.K = K := by rfl) : PE X (.Subscript e (.Slice none none (some (.UnaryOp .USub (.Constant (.int 1) k p1) p2)) p3) pos) (tRevL K te) := hK ▸ pe_revL he
theorem rev_map {α : Type} {f : α → V} {xs : List α} {H : Hp} {p : Addr} (h : H p = some (.lst (xs.map f).reverse)) : H p = some (.lst (xs.reverse.map f)) := by
  rw [List.map_reverse]
  exact h
theorem RpAll.rev {G : Hp} : ∀ {vs : List V} {ds : List PyData}, RpAll G vs ds → RpAll G vs.reverse ds.reverse
  | _, _, .nil => .nil
  | _, _, .cons h t => by
    rw [List.reverse_cons, List.reverse_cons]
    exact (RpAll.rev t).append (.one h)
theorem rev_all {α : Type} {f : α → PyData} {xs : List α} {G : Hp} {vs : List V} (a : RpAll G vs (xs.map f)) : RpAll G vs.reverse (xs.reverse.map f) := by
  rw [List.map_reverse]
  exact a.rev
theorem pi_zipK {X : Cx} {K : PySem.W.Frag} {e e2 : Expr} {ta : TA} {p pos tpos : Pos} {elts : List Expr} {kk : Nat} (hg : Gl X "zip") (hm : X.mg "zip" = none) (ha : PA X [e, e2] ta) (hK : X.K = K := by rfl)
    (hs : starEach [e, e2] X.env = (false, eval e X.env) :: starEach [e2] X.env := by rfl) (hpl : (backTo pos (starEach [e2] X.env)).any (·.1) = false := by rfl) :
    PI X (.Tuple elts kk tpos) (.Call (.Name "zip" p) [e, e2] [] pos) (RZ.iZipA K ta) := hK ▸ RZ.pi_zipA hg hm ha hs hpl
/-- a comprehension over zip of two lists of one length -/
theorem lc_zipL {K : PySem.W.Frag} {a b : Addr} {xs ys : List V} {g : TG} {tt : TT} {te : TE} {vs : List Nat} {σ : L2.St} {H1 : Hp} {D : Addr} {Qd : Hp → Prop} (hl : xs.length = ys.length) (Pv : Nat → Hp → Prop) (h0 : Pv 0 (upd H1 D (.lst []))) (hq : ∀ i H, i ≤ xs.length → Pv i H → SqL K H a xs ∧ SqL K H b ys)
    (hs : ∀ (i : Nat) (x y : V) (T : Addr) (H : Hp), xs[i]? = some x → ys[i]? = some y → H T = none → Pv i H → g (.ref T) (wipe σ vs) (upd H T (.tup [x, y])) fun σ2 H2 => wipe σ2 vs = wipe σ vs ∧ tt σ2 H2 fun b H3 =>
      if b = true then te σ2 H3 fun y H4 => ∃ acc, H4 D = some (.lst acc) ∧ acc.length < sizeLine ∧ Pv (i + 1) (upd H4 D (.lst (acc ++ [y]))) else Pv (i + 1) H3) (hd : ∀ H, Pv xs.length H → Qd H) :
    ∃ W : Nat → Nat → Hp → Prop, (∃ m, W 0 m (upd H1 D (.lst []))) ∧ ∀ i m H, W i m H →
      ((Itz K a b).stop i H ∧ Qd H) ∨ ((Itz K a b).go i H ∧ ∃ Nx : Hp → Prop, (∀ H', Nx H' → ∃ m', m' < m ∧ W (i + 1) m' H') ∧ ∀ x H', (Itz K a b).yld i H x H' → g x (wipe σ vs) H' fun σ2 H2 => wipe σ2 vs = wipe σ vs ∧ tt σ2 H2 fun b H3 =>
        if b = true then te σ2 H3 fun y H4 => ∃ acc, H4 D = some (.lst acc) ∧ acc.length < sizeLine ∧ Nx (upd H4 D (.lst (acc ++ [y]))) else Nx H3) := by
  refine ⟨fun i m H => m = xs.length - i ∧ i ≤ xs.length ∧ Pv i H, ⟨xs.length, by simp, Nat.zero_le _, h0⟩, ?_⟩
  rintro i m H ⟨rfl, hi, p⟩
  obtain ⟨qx, qy⟩ := hq i H hi p
  by_cases hlt : i < xs.length
  · have hlt2 : i < ys.length := by omega
    refine .inr ⟨⟨xs, ys, xs[i], ys[i], qx, qy, List.getElem?_eq_getElem hlt, List.getElem?_eq_getElem hlt2⟩, Pv (i + 1), fun H' p' => ⟨xs.length - (i + 1), by omega, rfl, hlt, p'⟩, fun v H' y => ?_⟩
    obtain ⟨T, x', y', rfl, hT, rfl, f1, f2⟩ := y
    exact hs i x' y' T H (f1 xs qx) (f2 ys qy) hT p
  · have e : i = xs.length := by omega
    subst e
    exact .inl ⟨⟨xs, ys, qx, qy, Or.inl (Nat.le_refl _)⟩, hd H p⟩
theorem zip_get {α β : Type} {xs : List α} {ys : List β} {i : Nat} {x : α} {y : β} (h1 : xs[i]? = some x) (h2 : ys[i]? = some y) : (xs.zip ys)[i]? = some (x, y) := by
  rw [List.getElem?_zip_eq_some]
  exact ⟨h1, h2⟩
theorem zip_len {α β : Type} {xs : List α} {ys : List β} {n : Nat} (h : xs.length = ys.length) (e : n = xs.length) : n = (xs.zip ys).length := by
  rw [List.length_zip, ← h, Nat.min_self]
  exact e
theorem zlen {α β : Type} {vs ws : List V} {xs : List α} {ys : List β} (a : vs.length = xs.length) (b : ws.length = ys.length) (h : xs.length = ys.length) : vs.length = ws.length := by rw [a, b, h]
section
variable {t : TT} {ta tb : TE} {σ : L2.St} {H : Hp}
theorem vv_ifP {p : Prop} [Decidable p] {a b : Int} (ht : Ans t σ H (decide p)) (hx : p → Val ta σ H (.int a)) (hy : ¬ p → Val tb σ H (.int b)) : Val (tIf t ta tb) σ H (.int (if p then a else b)) := by
  by_cases h : p
  · have := vv_if (p := p) (a := a) (b := a) ht (hx h) (tb := ta) (hx h)
    intro Q q
    refine ht _ ?_
    rw [decide_eq_true h, if_pos rfl]
    rw [if_pos h] at q
    exact hx h _ q
  · intro Q q
    refine ht _ ?_
    rw [decide_eq_false h, if_neg Bool.false_ne_true]
    rw [if_neg h] at q
    exact hy h _ q
theorem vv_ifQ {c : Bool} {a b : Int} (ht : Ans t σ H c) (hx : c = true → Val ta σ H (.int a)) (hy : c = false → Val tb σ H (.int b)) : Val (tIf t ta tb) σ H (.int (if c = true then a else b)) := by
  intro Q q
  refine ht _ ?_
  cases c with
  | true =>
    rw [if_pos rfl]
    rw [if_pos rfl] at q
    exact hx rfl _ q
  | false =>
    rw [if_neg Bool.false_ne_true]
    rw [if_neg Bool.false_ne_true] at q
    exact hy rfl _ q
end
theorem kit_mk0 {K : PySem.W.Frag} {S C : Addr} (h1 : (Value.ref S == Value.ref C) = false) (h2 : PySem.W.isClsIn K C = true) (h3 : PySem.W.typeIn K (.ref C) = some (.type "type")) (h4 : PySem.W.subIn K (.ref S) (.ref C) = some false) :
    PySem.W.kitOne K (.ref S) (.ref C) = some false := by
  unfold PySem.W.isClsIn at h2
  unfold PySem.W.kitOne
  rw [if_neg (by rw [h1]; exact Bool.false_ne_true)]
  unfold PySem.W.kitCls
  simp only [h2, h3, h4, beq_self_eq_true, Bool.and_self, if_true]
theorem vv_call2 {ta tb : TE} {σ : L2.St} {H : Hp} {x y z : V} {r : List V → Hp → VK → Prop} (ha : Val ta σ H x) (hb : Val tb σ H y) (hr : ∀ Q : VK, Q z H → r [x, y] H Q) : Val (tCB r (tCons ta (tCons tb tNil))) σ H z := fun Q q => ha _ (hb _ (hr Q q))
/-! ### lists of data that the caller owns; values that are a truth value or a number -/
theorem Sep.stepnew {M : List Addr} {H0 G0 G H H' : Hp} {O : List Addr} {p : Addr} {o : HO} (S : Sep M H0 G0 G H O) {G' : Hp} (e : Same H H') (eG : Same G G') (sG : Same G' H') (hn : ∀ b, H b ≠ none → G b = none → G' b = none) (_n : H p = none) (h : H' p = some o) (g : G' p = none) (hm : H0 p = none) : Sep M H0 G0 G' H' (p :: O) := by
  have S2 := S.step e eG sG hn
  refine ⟨S2.base, S2.pm, S2.sG, S2.g0, S2.gn, fun a ha => ?_⟩
  rcases List.mem_cons.mp ha with rfl | ha
  · exact ⟨g, (fun z => by rw [z] at h; cases h), .inr hm⟩
  · exact S2.ow a ha
inductive Bi where
  | b (x : Bool)
  | n (i : Int)
deriving DecidableEq
def biV : Bi → V
  | .b x => .bl x
  | .n i => .int i
def Bi.el {α : Type} (v : Bi) (f : Bool → α) (g : Int → α) : α :=
  match v with
  | .b x => f x
  | .n i => g i
theorem cW_elb {α : Type} {x : Bool} {f : Bool → Rx α} {g : Int → Rx α} {K : α → Prop} {E : Nat → Prop} (h : cW (Bi.el (.b x) f g) K E) : cW (f x) K E := h
theorem cW_eln {α : Type} {x : Int} {f : Bool → Rx α} {g : Int → Rx α} {K : α → Prop} {E : Nat → Prop} (h : cW (Bi.el (.n x) f g) K E) : cW (g x) K E := h
theorem rp_tup4 {α β γ δ : Type} {f : α → PyData} {g : β → PyData} {h : γ → PyData} {i : δ → PyData} {H : Hp} {v : V} {x : α × β × γ × δ} (r : Rp H v (encT4 f g h i x)) : ∃ a v1 v2 v3 v4, v = .ref a ∧ H a = some (.tup [v1, v2, v3, v4]) ∧ Rp H v1 (f x.1) ∧ Rp H v2 (g x.2.1) ∧ Rp H v3 (h x.2.2.1) ∧ Rp H v4 (i x.2.2.2) := by
  unfold encT4 at r
  cases r with
  | tup h1 h2 =>
    cases h2 with
    | cons a b =>
      cases b with
      | cons b c =>
        cases c with
        | cons c d =>
          cases d with
          | cons d e =>
            cases e
            exact ⟨_, _, _, _, _, rfl, h1, a, b, c, d⟩
theorem rp_mk4 {α β γ δ : Type} {f : α → PyData} {g : β → PyData} {h : γ → PyData} {i : δ → PyData} {H : Hp} {a : Addr} {v1 v2 v3 v4 : V} {x : α} {y : β} {z : γ} {w : δ} (h1 : H a = some (.tup [v1, v2, v3, v4])) (r1 : Rp H v1 (f x)) (r2 : Rp H v2 (g y)) (r3 : Rp H v3 (h z)) (r4 : Rp H v4 (i w)) : Rp H (.ref a) (encT4 f g h i (x, y, z, w)) := .tup h1 (.cons r1 (.cons r2 (.cons r3 (.cons r4 .nil))))
theorem Sep.b0M {M : List Addr} {H0 G0 G H : Hp} {O : List Addr} (S : Sep M H0 G0 G H O) (h : ∀ a ∈ M, H a = H0 a) : Same H0 H := fun b o e => by
  by_cases z : b ∈ M
  · rw [h b z]
    exact e
  · exact S.base b o e z
section
variable {X : Cx} {k j n : Nat} {f C : Addr} {fd : FuncData} {ps ks : List Str} {g : List V → List V → List V} {sp : Sp} {x m : Str} {pos p apos : Pos} {e o : Expr} {es : List Expr} {kws : List Keyword} {ta : TE} {t tk : TA} {W : WX}
/-- keywords alone -/
theorem vx_makeXK {pats : List Pat} (c : MakX X.prog X.w X.K X.mg X.base k x C sp pats) (pt : Pat) (hpt : pt ∈ pats) (hr : RoomG j X.A) (hk : k + 1 ≤ j) (tkW : Takes X W) (hg : Gl X x) (hkw : PK X kws tk)
    (hall : (backToKw pos (keywordEach kws X.env)).all (·.1.isSome) = true := by rfl) (hks : (backToKw pos (keywordEach kws X.env)).filterMap (·.1) = pt.2.1 := by rfl) (hdb : (x == ("__debug__" : Str)) = false := by decide)
    (hpl : ((backTo pos (starEach [] X.env)).any (·.1) || (backToKw pos (keywordEach kws X.env)).any (·.1.isNone)) = false := by rfl) :
    PE X (.Call (.Name x p) [] kws pos) (tMakeX C pt.1 pt.2.1.length sp pt.2.2 W tNil tk) := by
  obtain ⟨f, fd, ps, M, F, hm, b⟩ := c.ex
  refine ⟨fun pins s σ H Q I h => ?_⟩
  refine wpAny_Call_Name_kw (ld_glob I hg hm ?_ hdb)
  refine PySem.W.callWith_KW0 (h₀ := X.base) I.ok.mod.kin M.kp hall ?_ hpl
  refine thn (hkw.run pos pins s σ H _ I h) fun ws s2 ⟨zs, H2, I2, rz, l1, l2, q2⟩ => ⟨I2.kIn, ?_⟩
  rw [hks]
  exact run_mkX (us := []) (vs := []) M F (hr.low hk) (b pt hpt) tkW I2 .nil rz l1 l2 q2
theorem vx_callXK {pats : List Pat} (c : CalX X.prog X.w X.K X.mg X.base k x sp pats) (pt : Pat) (hpt : pt ∈ pats) (hr : RoomG j X.A) (hk : k ≤ j) (tkW : Takes X W) (hg : Gl X x) (hkw : PK X kws tk)
    (hall : (backToKw pos (keywordEach kws X.env)).all (·.1.isSome) = true := by rfl) (hks : (backToKw pos (keywordEach kws X.env)).filterMap (·.1) = pt.2.1 := by rfl) (hdb : (x == ("__debug__" : Str)) = false := by decide)
    (hpl : ((backTo pos (starEach [] X.env)).any (·.1) || (backToKw pos (keywordEach kws X.env)).any (·.1.isNone)) = false := by rfl) :
    PE X (.Call (.Name x p) [] kws pos) (tCallX pt.1 pt.2.1.length sp pt.2.2 W tNil tk) := by
  obtain ⟨f, fd, ps, F, hm, kp, b⟩ := c.ex
  refine ⟨fun pins s σ H Q I h => ?_⟩
  refine wpAny_Call_Name_kw (ld_glob I hg hm ?_ hdb)
  refine PySem.W.callWith_KW0 (h₀ := X.base) I.ok.mod.kin kp hall ?_ hpl
  refine thn (hkw.run pos pins s σ H _ I h) fun ws s2 ⟨zs, H2, I2, rz, l1, l2, q2⟩ => ⟨I2.kIn, ?_⟩
  rw [hks]
  exact run_X (us := []) (vs := []) F (hr.low hk) (b pt hpt) tkW I2 .nil rz l1 l2 q2
theorem vx_methXK {pats : List Pat} {pl : Sem Bool} (c : MetX X.prog X.w X.K X.mg X.base k C m sp pats) (pt : Pat) (hpt : pt ∈ pats) (hr : RoomG j X.A) (hk : k ≤ j) (tkW : Takes X W) (he : PE X o ta) (hkw : PK X kws tk)
    (hall : (backToKw pos (keywordEach kws X.env)).all (·.1.isSome) = true := by rfl) (hks : (backToKw pos (keywordEach kws X.env)).filterMap (·.1) = pt.2.1 := by rfl)
    (hpl : ((backTo pos (starEach [] X.env)).any (·.1) || (backToKw pos (keywordEach kws X.env)).any (·.1.isNone)) = false := by rfl)
    (ht : eval (.Call (.Attribute o m apos) [] kws pos) X.env = (do
      let ov ← eval o X.env
      standAt apos.atName
      let (f, first) ← holding [ov] (getMethod ov m pl)
      callWith pos f first (backTo pos (starEach [] X.env)) (backToKw pos (keywordEach kws X.env))) := by rfl) :
    PE X (.Call (.Attribute o m apos) [] kws pos) (tMethX C m pt.1 pt.2.1.length sp pt.2.2 W ta tNil tk) := by
  obtain ⟨f, fd, ps, hc, hm, F, b⟩ := c.ex
  refine ⟨fun pins s σ H Q I h => ?_⟩
  refine PySem.W.methodCall_KW (pl := pl) (thn (he.run pins s σ H _ I h) fun u s1 ⟨x, H1, I1, rx, a, dx, fs, ex, ea, l, q⟩ => ?_) ht
  subst ex
  obtain rfl : u = Value.ref a := rx
  refine getmeth_ok I1 ea hc hm l ?_
  refine PySem.W.callWith_KW0 (first := [.ref a]) (h₀ := X.base) I.ok.mod.kin hm.kp hall ?_ hpl
  refine thn (hkw.run pos pins s1 σ H1 _ I1 q) fun ws s3 ⟨zs, H3, I3, rz, l1, l2, q3⟩ => ⟨I3.kIn, ?_⟩
  rw [hks]
  exact run_X (us := [.ref a]) (vs := [.ref a]) F (hr.low hk) (b pt hpt) tkW I3 (.cons rfl .nil) rz l1 l2 q3
end
end Vx
/-! # lists within lists that are owned as a whole -/
namespace Vx
open PySem PySem.Spec PyProof.Rows L2
inductive Kd where
  | lst
  | tup
  | ins (C dx : Addr) (ns : List Str)
def Kd.ho : Kd → List V → HO
  | .lst, vs => .lst vs
  | .tup, vs => .tup vs
  | .ins C dx ns, vs => .ins C dx (ns.zip vs)
/-- what stands in the heap as a tree: values as they are, data that stay, nodes of its own -/
inductive Dt where
  | val (v : V)
  | frz (d : PyData)
  | nod (k : Kd) (xs : List Dt)
mutual
inductive Ow (G H : Hp) : List Addr → V → Dt → Prop
  | val (v : V) : Ow G H [] v (.val v)
  | frz {v : V} {d : PyData} : Rp G v d → Ow G H [] v (.frz d)
  | nod {a : Addr} {k : Kd} {vs : List V} {ds : List Dt} {L : List Addr} : H a = some (k.ho vs) → OwAll G H L vs ds → a ∉ L → Ow G H (a :: L) (.ref a) (.nod k ds)
inductive OwAll (G H : Hp) : List Addr → List V → List Dt → Prop
  | nil : OwAll G H [] [] []
  | cons {L1 L2 : List Addr} {v : V} {vs : List V} {d : Dt} {ds : List Dt} : Ow G H L1 v d → OwAll G H L2 vs ds → (∀ b ∈ L1, b ∉ L2) → OwAll G H (L1 ++ L2) (v :: vs) (d :: ds)
end
def Keeps (L : List Addr) (H H' : Hp) : Prop := ∀ b ∈ L, ∀ o, H b = some o → H' b = some o
mutual
theorem Ow.mono {G G' H H' : Hp} (e : Same G G') : ∀ {L : List Addr} {v : V} {d : Dt}, Keeps L H H' → Ow G H L v d → Ow G' H' L v d
  | _, _, _, _, .val v => .val v
  | _, _, _, _, .frz r => .frz (r.mono e)
  | _, _, _, k, .nod h r n => .nod (k _ List.mem_cons_self _ h) (OwAll.mono e (fun b hb => k b (List.mem_cons_of_mem _ hb)) r) n
theorem OwAll.mono {G G' H H' : Hp} (e : Same G G') : ∀ {L : List Addr} {vs : List V} {ds : List Dt}, Keeps L H H' → OwAll G H L vs ds → OwAll G' H' L vs ds
  | _, _, _, _, .nil => .nil
  | _, _, _, k, .cons a r d => .cons (Ow.mono e (fun b hb => k b (List.mem_append_left _ hb)) a) (OwAll.mono e (fun b hb => k b (List.mem_append_right _ hb)) r) d
end
mutual
theorem Ow.there {G H : Hp} : ∀ {L : List Addr} {v : V} {d : Dt}, Ow G H L v d → ∀ b ∈ L, H b ≠ none
  | _, _, _, .val _, _, hb => nomatch hb
  | _, _, _, .frz _, _, hb => nomatch hb
  | _, _, _, .nod h r n, b, hb => by
    rcases List.mem_cons.mp hb with rfl | hb
    · exact some_ne h
    · exact OwAll.there r b hb
theorem OwAll.there {G H : Hp} : ∀ {L : List Addr} {vs : List V} {ds : List Dt}, OwAll G H L vs ds → ∀ b ∈ L, H b ≠ none
  | _, _, _, .nil, _, hb => nomatch hb
  | _, _, _, .cons a r d, b, hb => by
    rcases List.mem_append.mp hb with hb | hb
    · exact Ow.there a b hb
    · exact OwAll.there r b hb
end
theorem OwAll.len {G H : Hp} : ∀ {L : List Addr} {vs : List V} {ds : List Dt}, OwAll G H L vs ds → vs.length = ds.length
  | _, _, _, .nil => rfl
  | _, _, _, .cons _ r _ => congrArg Nat.succ r.len
theorem OwAll.snoc {G H : Hp} {L1 : List Addr} {v : V} {d : Dt} (h : Ow G H L1 v d) : ∀ {L : List Addr} {vs : List V} {ds : List Dt}, OwAll G H L vs ds → (∀ b ∈ L, b ∉ L1) → OwAll G H (L ++ L1) (vs ++ [v]) (ds ++ [d])
  | _, _, _, .nil, _ => by
    have z : OwAll G H (L1 ++ []) [v] [d] := .cons h .nil (fun _ _ z => nomatch z)
    rw [List.append_nil] at z
    exact z
  | _, _, _, .cons (L1 := La) (L2 := Lb) a r n, k => by
    have z := OwAll.cons a (OwAll.snoc h r fun b hb => k b (List.mem_append_right _ hb)) (fun b hb q => by
      rcases List.mem_append.mp q with q | q
      · exact n b hb q
      · exact k b (List.mem_append_left _ hb) q)
    rw [← List.append_assoc] at z
    exact z
theorem OwAll.app {G H : Hp} {L2 : List Addr} {ws : List V} {es : List Dt} (h : OwAll G H L2 ws es) : ∀ {L : List Addr} {vs : List V} {ds : List Dt}, OwAll G H L vs ds → (∀ b ∈ L, b ∉ L2) → OwAll G H (L ++ L2) (vs ++ ws) (ds ++ es)
  | _, _, _, .nil, _ => h
  | _, _, _, .cons (L1 := La) (L2 := Lb) a r n, k => by
    have z := OwAll.cons a (OwAll.app h r fun b hb => k b (List.mem_append_right _ hb)) (fun b hb q => by
      rcases List.mem_append.mp q with q | q
      · exact n b hb q
      · exact k b (List.mem_append_left _ hb) q)
    rw [← List.append_assoc] at z
    exact z
/-! ### trees that are data -/
mutual
inductive Dd : Dt → PyData → Prop
  | non : Dd (.val .non) .none
  | bl (b : Bool) : Dd (.val (.bl b)) (.bool b)
  | int (i : Int) : Dd (.val (.int i)) (.int i)
  | str (x : Str) : Dd (.val (.str x)) (.str x)
  | frz (d : PyData) : Dd (.frz d) d
  | lst {xs : List Dt} {ds : List PyData} : DdAll xs ds → Dd (.nod .lst xs) (.list ds)
  | tup {xs : List Dt} {ds : List PyData} : DdAll xs ds → Dd (.nod .tup xs) (.tuple ds)
inductive DdAll : List Dt → List PyData → Prop
  | nil : DdAll [] []
  | cons {x : Dt} {xs : List Dt} {d : PyData} {ds : List PyData} : Dd x d → DdAll xs ds → DdAll (x :: xs) (d :: ds)
end
mutual
/-- read in any heap that holds its nodes -/
theorem Ow.rp {G H I : Hp} (e : Same G I) : ∀ {L : List Addr} {v : V} {d : Dt} {p : PyData}, Keeps L H I → Ow G H L v d → Dd d p → Rp I v p
  | _, _, _, _, _, .val _, .non => .non
  | _, _, _, _, _, .val _, .bl b => .bl b
  | _, _, _, _, _, .val _, .int i => .int i
  | _, _, _, _, _, .val _, .str x => .str x
  | _, _, _, _, _, .frz r, .frz _ => r.mono e
  | _, _, _, _, k, .nod h r _, .lst q => .lst (k _ List.mem_cons_self _ h) (OwAll.rp e (fun b hb => k b (List.mem_cons_of_mem _ hb)) r q)
  | _, _, _, _, k, .nod h r _, .tup q => .tup (k _ List.mem_cons_self _ h) (OwAll.rp e (fun b hb => k b (List.mem_cons_of_mem _ hb)) r q)
theorem OwAll.rp {G H I : Hp} (e : Same G I) : ∀ {L : List Addr} {vs : List V} {ds : List Dt} {ps : List PyData}, Keeps L H I → OwAll G H L vs ds → DdAll ds ps → RpAll I vs ps
  | _, _, _, _, _, .nil, .nil => .nil
  | _, _, _, _, k, .cons a r _, .cons x xs => .cons (Ow.rp e (fun b hb => k b (List.mem_append_left _ hb)) a x) (OwAll.rp e (fun b hb => k b (List.mem_append_right _ hb)) r xs)
end
def oI (i : Int) : Dt := .val (.int i)
def oB (b : Bool) : Dt := .val (.bl b)
def oF {α : Type} (f : α → PyData) (x : α) : Dt := .frz (f x)
def oL {α : Type} (f : α → Dt) (xs : List α) : Dt := .nod .lst (xs.map f)
def EncO {α : Type} (f : α → Dt) (g : α → PyData) : Prop := ∀ x, Dd (f x) (g x)
theorem encO_I : EncO oI PyData.int := fun i => .int i
theorem encO_B : EncO oB PyData.bool := fun i => .bl i
theorem encO_F {α : Type} {f : α → PyData} : EncO (oF f) f := fun _ => .frz _
theorem EncO.all {α : Type} {f : α → Dt} {g : α → PyData} (h : EncO f g) : ∀ xs : List α, DdAll (xs.map f) (xs.map g)
  | [] => .nil
  | x :: xs => .cons (h x) (EncO.all h xs)
theorem encO_L {α : Type} {f : α → Dt} {g : α → PyData} (h : EncO f g) : EncO (oL f) (encL g) := fun xs => .lst (h.all xs)
theorem keeps_same {L : List Addr} {H H' : Hp} (e : Same H H') : Keeps L H H' := fun b _ o q => e b o q
theorem keeps_refl {L : List Addr} {H : Hp} : Keeps L H H := fun _ _ _ q => q
theorem keeps_mut {L : List Addr} {H H' : Hp} {m : Addr} (x : SameX m H H') (n : ∀ b ∈ L, b ≠ m) : Keeps L H H' := fun b hb o q => x b o q (n b hb)
theorem keeps_muts {L M : List Addr} {H H' : Hp} (x : SameXs M H H') (n : ∀ b ∈ L, b ∉ M) : Keeps L H H' := fun b hb o q => x b o q (n b hb)
theorem keeps_hide {L M : List Addr} {H : Hp} (n : ∀ b ∈ L, b ∉ M) : Keeps L H (hideL M H) := fun b hb o q => by
  rw [hideL_out (n b hb)]
  exact q
section
variable {α : Type} {f : α → Dt} {g : α → PyData} {G H I : Hp} {L : List Addr} {vs : List V} {xs : List α}
theorem OwAll.rpA (w : OwAll G H L vs (xs.map f)) (h : EncO f g) (e : Same G H) : RpAll H vs (xs.map g) := OwAll.rp e keeps_refl w (h.all xs)
theorem OwAll.rpH (w : OwAll G H L vs (xs.map f)) (h : EncO f g) (e : Same G I) (k : Keeps L H I) : RpAll I vs (xs.map g) := OwAll.rp e k w (h.all xs)
theorem OwAll.lenM (w : OwAll G H L vs (xs.map f)) : vs.length = xs.length := by rw [w.len, List.length_map]
theorem OwAll.snocM {L1 : List Addr} {v : V} {y : α} (w : OwAll G H L vs (xs.map f)) (h : Ow G H L1 v (f y)) (n : ∀ b ∈ L, b ∉ L1) : OwAll G H (L ++ L1) (vs ++ [v]) ((xs ++ [y]).map f) := by
  rw [List.map_append]
  exact OwAll.snoc h w n
theorem Ow.ints {a : Addr} {ys : List Int} (h : H a = some (.lst (ys.map V.int))) : Ow G H [a] (.ref a) (oL oI ys) := by
  have z : ∀ ys : List Int, OwAll G H [] (ys.map V.int) (ys.map oI) := fun ys => by
    induction ys with
    | nil => exact .nil
    | cons y r ih => exact .cons (L1 := []) (L2 := []) (.val _) ih (fun _ z => nomatch z)
  exact .nod (k := .lst) h (z ys) (fun z => nomatch z)
theorem Ow.list {a : Addr} {xs : List α} {L : List Addr} {vs : List V} (h : H a = some (.lst vs)) (w : OwAll G H L vs (xs.map f)) (n : ∀ b ∈ L, b ≠ a) : Ow G H (a :: L) (.ref a) (oL f xs) := .nod (k := .lst) h w (fun z => n a z rfl)
theorem Ow.toList {v : V} {L : List Addr} {xs : List α} (w : Ow G H L v (oL f xs)) : ∃ a vs L', v = .ref a ∧ L = a :: L' ∧ H a = some (.lst vs) ∧ OwAll G H L' vs (xs.map f) ∧ ∀ b ∈ L', b ≠ a := by
  unfold oL at w
  cases w with
  | nod h r n => exact ⟨_, _, _, rfl, rfl, h, r, fun b hb z => n (z ▸ hb)⟩
theorem OwAll.toInts : ∀ {L : List Addr} {vs : List V} {xs : List Int}, OwAll G H L vs (xs.map oI) → L = [] ∧ vs = xs.map V.int
  | _, _, [], .nil => ⟨rfl, rfl⟩
  | _, _, x :: xs, .cons a r _ => by
    obtain ⟨h1, h2⟩ := OwAll.toInts r
    cases a
    exact ⟨by rw [h1] <;> rfl, by rw [h2] <;> rfl⟩
theorem Ow.toInts {v : V} {L : List Addr} {xs : List Int} (w : Ow G H L v (oL oI xs)) : ∃ a, v = .ref a ∧ L = [a] ∧ H a = some (.lst (xs.map V.int)) := by
  obtain ⟨a, vs, L', rfl, rfl, h, r, _⟩ := w.toList
  obtain ⟨rfl, rfl⟩ := r.toInts
  exact ⟨a, rfl, rfl, h⟩
/-- the part at a place, and how a change of it alone changes the whole -/
theorem OwAll.part : ∀ {L : List Addr} {vs : List V} {ds : List Dt} {i : Nat} {d : Dt}, OwAll G H L vs ds → ds[i]? = some d → ∃ v L1, vs[i]? = some v ∧ Ow G H L1 v d ∧ (∀ b ∈ L1, b ∈ L) ∧
    ∀ H' d', (∀ b ∈ L, b ∉ L1 → ∀ o, H b = some o → H' b = some o) → Ow G H' L1 v d' → OwAll G H' L vs (ds.set i d')
  | _, _, _, _, _, .nil, h => by simp at h
  | _, _, _, 0, _, .cons (L1 := La) (L2 := Lb) a r n, h => by
    simp at h
    subst h
    refine ⟨_, La, rfl, a, fun b hb => List.mem_append_left _ hb, fun H' d' k w => ?_⟩
    exact .cons w (OwAll.mono (Same.refl G) (fun b hb => k b (List.mem_append_right _ hb) fun z => n b z hb) r) n
  | _, _, _, i + 1, _, .cons (L1 := La) (L2 := Lb) a r n, h => by
    obtain ⟨v, L1, h1, h2, h3, h4⟩ := OwAll.part (i := i) r (by simpa using h)
    refine ⟨v, L1, by simpa using h1, h2, fun b hb => List.mem_append_right _ (h3 b hb), fun H' d' k w => ?_⟩
    refine .cons (Ow.mono (Same.refl G) (fun b hb => k b (List.mem_append_left _ hb) fun z => n b hb (h3 b z)) a) (h4 H' d' (fun b hb nb => k b (List.mem_append_right _ hb) nb) w) n
/-- the same, where the part grows: its new footprint is the old one and what is new -/
theorem OwAll.part2 : ∀ {L : List Addr} {vs : List V} {ds : List Dt} {i : Nat} {d : Dt}, OwAll G H L vs ds → ds[i]? = some d → ∃ v L1, vs[i]? = some v ∧ Ow G H L1 v d ∧ (∀ b ∈ L1, b ∈ L) ∧
    (∀ H' d', (∀ b ∈ L, b ∉ L1 → ∀ o, H b = some o → H' b = some o) → Ow G H' L1 v d' → OwAll G H' L vs (ds.set i d')) ∧
    ∀ G' H' d' Fv L1', Same G G' → (∀ b ∈ L, b ∉ L1 → ∀ o, H b = some o → H' b = some o) → (∀ b ∈ L1', b ∈ L1 ++ Fv) → (∀ b ∈ Fv, b ∉ L) → Ow G' H' L1' v d' → ∃ L', (∀ b ∈ L', b ∈ L ++ Fv) ∧ OwAll G' H' L' vs (ds.set i d')
  | _, _, _, _, _, .nil, h => by simp at h
  | _, _, _, 0, _, .cons (L1 := La) (L2 := Lb) a r n, h => by
    simp at h
    subst h
    refine ⟨_, La, rfl, a, fun b hb => List.mem_append_left _ hb, fun H' d' k w => ?_, fun G' H' d' Fv L1' eG k s nf w => ⟨L1' ++ Lb, fun b hb => ?_, ?_⟩⟩
    · exact .cons w (OwAll.mono (Same.refl G) (fun b hb => k b (List.mem_append_right _ hb) fun z => n b z hb) r) n
    · rcases List.mem_append.mp hb with hb | hb
      · rcases List.mem_append.mp (s b hb) with q | q
        · exact List.mem_append_left _ (List.mem_append_left _ q)
        · exact List.mem_append_right _ q
      · exact List.mem_append_left _ (List.mem_append_right _ hb)
    · refine .cons w (OwAll.mono eG (fun b hb => k b (List.mem_append_right _ hb) fun z => n b z hb) r) fun b hb q => ?_
      rcases List.mem_append.mp (s b hb) with z | z
      · exact n b z q
      · exact nf b z (List.mem_append_right _ q)
  | _, _, _, i + 1, _, .cons (L1 := La) (L2 := Lb) a r n, h => by
    obtain ⟨v, L1, h1, h2, h3, h4, h5⟩ := OwAll.part2 (i := i) r (by simpa using h)
    refine ⟨v, L1, by simpa using h1, h2, fun b hb => List.mem_append_right _ (h3 b hb), fun H' d' k w => ?_, fun G' H' d' Fv L1' eG k s nf w => ?_⟩
    · refine .cons (Ow.mono (Same.refl G) (fun b hb => k b (List.mem_append_left _ hb) fun z => n b hb (h3 b z)) a) (h4 H' d' (fun b hb nb => k b (List.mem_append_right _ hb) nb) w) n
    · obtain ⟨L', s2, z⟩ := h5 G' H' d' Fv L1' eG (fun b hb nb => k b (List.mem_append_right _ hb) nb) s (fun b hb q => nf b hb (List.mem_append_right _ q)) w
      refine ⟨La ++ L', fun b hb => ?_, .cons (Ow.mono eG (fun b hb => k b (List.mem_append_left _ hb) fun z => n b hb (h3 b z)) a) z fun b hb q => ?_⟩
      · rcases List.mem_append.mp hb with hb | hb
        · exact List.mem_append_left _ (List.mem_append_left _ hb)
        · rcases List.mem_append.mp (s2 b hb) with q | q
          · exact List.mem_append_left _ (List.mem_append_right _ q)
          · exact List.mem_append_right _ q
      · rcases List.mem_append.mp (s2 b q) with y | y
        · exact n b hb y
        · exact nf b y (List.mem_append_left _ hb)
theorem OwAll.partM [Inhabited α] {k : Int} (w : OwAll G H L vs (xs.map f)) (h : -(xs.length : Int) ≤ k ∧ k < xs.length) : ∃ v L1, atI vs k = some v ∧ Ow G H L1 v (f (itD xs k)) ∧ (∀ b ∈ L1, b ∈ L) ∧
    (∀ H' y, (∀ b ∈ L, b ∉ L1 → ∀ o, H b = some o → H' b = some o) → Ow G H' L1 v (f y) → OwAll G H' L vs ((setL xs k y).map f)) ∧
    ∀ G' H' y Fv L1', Same G G' → (∀ b ∈ L, b ∉ L1 → ∀ o, H b = some o → H' b = some o) → (∀ b ∈ L1', b ∈ L1 ++ Fv) → (∀ b ∈ Fv, b ∉ L) → Ow G' H' L1' v (f y) → ∃ L', (∀ b ∈ L', b ∈ L ++ Fv) ∧ OwAll G' H' L' vs ((setL xs k y).map f) := by
  obtain ⟨j, e, hj⟩ := ixN_some h
  have hx := List.getElem?_eq_getElem hj
  obtain ⟨v, L1, h1, h2, h3, h4, h5⟩ := OwAll.part2 (i := j) (d := f xs[j]) w (by rw [List.getElem?_map, hx] <;> rfl)
  have ei : itD xs k = xs[j] := by
    unfold itD atI
    rw [e]
    show (xs[j]?).getD default = _
    rw [hx] <;> rfl
  refine ⟨v, L1, ?_, by rw [ei]; exact h2, h3, fun H' y q w2 => ?_, fun G' H' y Fv L1' eG q s nf w2 => ?_⟩
  · unfold atI
    rw [w.lenM, e]
    exact h1
  · have z := h4 H' (f y) q w2
    unfold setL
    rw [e, List.map_set]
    exact z
  · obtain ⟨L', s2, z⟩ := h5 G' H' (f y) Fv L1' eG q s nf w2
    refine ⟨L', s2, ?_⟩
    unfold setL
    rw [e, List.map_set]
    exact z
theorem grow_keeps {L L1 : List Addr} {m : Addr} {H H1 H2 : Hp} (e : Same H H1) (x : SameX m H1 H2) (hm : m ∈ L1) : ∀ b ∈ L, b ∉ L1 → ∀ o, H b = some o → H2 b = some o := fun b _ n o q => x b o (e b o q) (fun z => n (z ▸ hm))
theorem grow_sub {a : Addr} {L' Lr Fv : List Addr} (h : ∀ b ∈ L', b ∈ Lr ++ Fv) : ∀ b ∈ a :: L', b ∈ (a :: Lr) ++ Fv := fun b hb => by
  rcases List.mem_cons.mp hb with rfl | hb
  · exact List.mem_cons_self
  · exact List.mem_cons_of_mem _ (h b hb)
/-- the item of a turn -/
theorem OwAll.turn {i : Nat} {v : V} (w : OwAll G H L vs (xs.map f)) (h : vs[i]? = some v) : ∃ x L1, xs[i]? = some x ∧ Ow G H L1 v (f x) ∧ ∀ b ∈ L1, b ∈ L := by
  have hl := get_len h
  have e := w.lenM
  have hx := List.getElem?_eq_getElem (show i < xs.length by omega)
  obtain ⟨v2, L1, h1, h2, h3, _⟩ := OwAll.part (i := i) (d := f xs[i]) w (by rw [List.getElem?_map, hx] <;> rfl)
  rw [h] at h1
  cases h1
  exact ⟨_, L1, hx, h2, h3⟩
end
/-! ### what is owned, in pieces -/
theorem all_app {P : Addr → Prop} {L l : List Addr} (h : ∀ x ∈ L, P x) (t : ∀ x ∈ l, P x) : ∀ x ∈ L ++ l, P x := fun x hx => by
  rcases List.mem_append.mp hx with q | q
  · exact h x q
  · exact t x q
theorem nm_nil {a : Addr} : a ∉ ([] : List Addr) := fun z => nomatch z
theorem nm_cons {a m : Addr} {l : List Addr} (h : a ≠ m) (t : a ∉ l) : a ∉ m :: l := fun z => by
  rcases List.mem_cons.mp z with q | q
  · exact h q
  · exact t q
theorem nm_app {a : Addr} {L l : List Addr} (h : a ∉ L) (t : a ∉ l) : a ∉ L ++ l := fun z => by
  rcases List.mem_append.mp z with q | q
  · exact h q
  · exact t q
theorem there_ne {H : Hp} {L : List Addr} {x : Addr} (t : ∀ b ∈ L, H b ≠ none) (n : H x = none) : ∀ b ∈ L, b ≠ x := fun b hb z => t b hb (z ▸ n)
theorem new_ne {H : Hp} {L : List Addr} {x : Addr} {o : HO} (n : ∀ b ∈ L, H b = none) (h : H x = some o) : ∀ b ∈ L, b ≠ x := fun b hb z => by
  have := n b hb
  rw [z, h] at this
  cases this
theorem new_nl {H : Hp} {L L2 : List Addr} (n : ∀ b ∈ L, H b = none) (t : ∀ b ∈ L2, H b ≠ none) : ∀ b ∈ L, b ∉ L2 := fun b hb z => t b z (n b hb)
theorem nl_symm {L L2 : List Addr} (h : ∀ b ∈ L, b ∉ L2) : ∀ b ∈ L2, b ∉ L := fun b hb z => h b z hb
theorem none_of_same {H H' : Hp} {x : Addr} (e : Same H H') (n : H' x = none) : H x = none := by
  cases q : H x with
  | none => rfl
  | some o =>
    rw [e x o q] at n
    cases n
section
variable {M : List Addr} {H0 G0 G H H' : Hp} {O L : List Addr} {p m : Addr} {o : HO}
theorem Sep.h0 (S : Sep M H0 G0 G H O) {b : Addr} (hb : b ∈ O) (hM : b ∉ M) : H0 b = none := (S.ow b hb).2.2.elim (fun z => (hM z).elim) id
theorem g_nl {a : Addr} {o : HO} (h : G a = some o) (S : Sep M H0 G0 G H O) (hL : ∀ b ∈ L, b ∈ O) : ∀ b ∈ L, b ≠ a := fun b hb => (g_ne h S (hL b hb)).symm
theorem b_nl {a : Addr} {o : HO} (h : (hideL M H0) a = some o) (S : Sep M H0 G0 G H O) (hL : ∀ b ∈ L, b ∈ O) : ∀ b ∈ L, b ≠ a := fun b hb => (b_ne h S (hL b hb)).symm
/-- a whole tree that is to stay as it is -/
theorem Sep.freezeL (S : Sep M H0 G0 G H O) {O' : List Addr} (hL : ∀ b ∈ L, b ∈ O) (h0 : ∀ b ∈ L, H0 b = none) (hO : ∀ b ∈ O', b ∈ O ∧ b ∉ L) : ∃ G', Same G G' ∧ Keeps L H G' ∧ Sep M H0 G0 G' H O' := by
  have gn : ∀ b ∈ L, G b = none := fun b hb => (S.ow b (hL b hb)).1
  refine ⟨fun b => if b ∈ L then H b else G b, fun b u q => ?_, fun b hb u q => ?_, S.base, S.pm, fun b u q => ?_, fun b u q => ?_, fun b hb gb => ?_, fun a ha => ?_⟩
  · have n : b ∉ L := fun z => by
      rw [gn b z] at q
      cases q
    show (if b ∈ L then H b else G b) = _
    rw [if_neg n]
    exact q
  · show (if b ∈ L then H b else G b) = _
    rw [if_pos hb]
    exact q
  · by_cases z : b ∈ L
    · exact (if_pos z).symm.trans q
    · exact S.sG b u ((if_neg z).symm.trans q)
  · have z : b ∉ L := fun z => by
      have := S.g0 b u q
      rw [gn b z] at this
      cases this
    show (if b ∈ L then H b else G b) = _
    rw [if_neg z]
    exact S.g0 b u q
  · have z : b ∉ L := fun z => hb (h0 b z)
    show (if b ∈ L then H b else G b) = _
    rw [if_neg z]
    exact S.gn b hb gb
  · obtain ⟨h1, h2⟩ := hO a ha
    refine ⟨?_, (S.ow a h1).2⟩
    show (if a ∈ L then H a else G a) = _
    rw [if_neg h2]
    exact (S.ow a h1).1
/-- a callee hands over a list of lists of its own making -/
theorem Sep.steptree (S : Sep M H0 G0 G H O) {G' : Hp} (e : Same H H') (eG : Same G G') (sG : Same G' H') (hn : ∀ b, H b ≠ none → G b = none → G' b = none) (L : List Addr) (hL : ∀ b ∈ L, H b = none ∧ G' b = none ∧ H' b ≠ none) : Sep M H0 G0 G' H' (L ++ O) := by
  have S2 := S.step e eG sG hn
  refine ⟨S2.base, S2.pm, S2.sG, S2.g0, S2.gn, all_app (fun b hb => ⟨(hL b hb).2.1, (hL b hb).2.2, .inr (S.free (hL b hb).1)⟩) S2.ow⟩
end
theorem Rp.list_of {α : Type} {g : α → PyData} {H : Hp} {a : Addr} {vs : List V} {xs : List α} (h : H a = some (.lst vs)) (r : RpAll H vs (xs.map g)) : Rp H (.ref a) (encL g xs) := .lst h r
/-! ### repr of data -/
mutual
def nodes : PyData → Nat
  | .list xs => 1 + nodesAll xs
  | .tuple xs => 1 + nodesAll xs
  | _ => 1
def nodesAll : List PyData → Nat
  | [] => 0
  | x :: xs => nodes x + nodesAll xs
end
mutual
def smallD : PyData → Bool
  | .none => true
  | .bool _ => true
  | .int i => decide (i.natAbs < 10 ^ 19)
  | .str x => decide ((reprText x).length ≤ 20)
  | .list xs => smallAll xs
  | .tuple xs => smallAll xs
  | _ => false
def smallAll : List PyData → Bool
  | [] => true
  | x :: xs => smallD x && smallAll xs
end
theorem piled_list (ts : List Str) : (listText ts).length ≤ piled ts + 2 := by
  cases ts with
  | nil => exact Nat.le_refl 2
  | cons t r =>
    have e : (listText (t :: r)).length = (textFrom 1 ("[" ++ ("" : String) ++ t) r).length + 1 := by
      show (textFrom 0 "[" (t :: r) ++ "]").length = _
      rw [strLen_append]
      rfl
    rw [e, textFrom_length_pos r 1 _ (by decide), piled_cons, strLen_append, strLen_append]
    have h1 : (("[" : String) : Str).length = 1 := rfl
    have h2 : (("" : String) : Str).length = 0 := rfl
    omega
theorem piled_tup (ts : List Str) : (tupleText ts).length ≤ piled ts + 3 := by
  unfold tupleText
  rw [strLen_append, strLen_append]
  have h1 : (("(" : String) : Str).length = 1 := rfl
  have h2 : (((if ts.length == 1 then ",)" else ")" : String) : Str)).length ≤ 2 := by split <;> decide
  by_cases h : ts = []
  · subst h
    exact Nat.le_of_lt (by decide)
  · have := join_length_add ts h
    omega
mutual
theorem small_shown : ∀ d : PyData, smallD d = true → d.shown.length + 4 ≤ 26 * nodes d ∧ d.showable = true ∧ d.hasDict = false
  | .none, _ => ⟨by simp only [PyData.shown, nodes]; decide, by simp [PyData.showable], by simp [PyData.hasDict]⟩
  | .bool b, _ => ⟨by cases b <;> simp only [PyData.shown, nodes] <;> decide, by simp [PyData.showable], by simp [PyData.hasDict]⟩
  | .int i, h => by
    have h : i.natAbs < 10 ^ 19 := by simpa [smallD] using h
    refine ⟨?_, ?_, by simp [PyData.hasDict]⟩
    · have := int_text_length_le10 (k := 19) (by decide) h
      simp only [PyData.shown, nodes]
      rw [PySem.ofString_length]
      omega
    · simp only [PyData.showable, decide_eq_true_eq]
      have : i.natAbs < 2 ^ 64 := by omega
      rcases Nat.eq_zero_or_pos i.natAbs with z | z
      · rw [z]
        decide
      · have := (Nat.log2_lt (by omega)).mpr this
        omega
  | .str x, h => by
    have h : (reprText x).length ≤ 20 := by simpa [smallD] using h
    refine ⟨by simp only [PyData.shown, nodes]; omega, by simp [PyData.showable], by simp [PyData.hasDict]⟩
  | .list xs, h => by
    obtain ⟨h1, h2, h3⟩ := small_shownAll xs (by simpa [smallD] using h)
    refine ⟨?_, by simpa [PyData.showable] using h2, by simpa [PyData.hasDict] using h3⟩
    have := piled_list (PyData.shownAll xs)
    simp only [PyData.shown, nodes]
    omega
  | .tuple xs, h => by
    obtain ⟨h1, h2, h3⟩ := small_shownAll xs (by simpa [smallD] using h)
    refine ⟨?_, by simpa [PyData.showable] using h2, by simpa [PyData.hasDict] using h3⟩
    have := piled_tup (PyData.shownAll xs)
    simp only [PyData.shown, nodes]
    omega
  | .dict kvs, h => by simp [smallD] at h
theorem small_shownAll : ∀ ds : List PyData, smallAll ds = true → piled (PyData.shownAll ds) ≤ 26 * nodesAll ds ∧ PyData.showableAll ds = true ∧ PyData.hasDictAll ds = false
  | [], _ => ⟨by simp [PyData.shownAll, nodesAll, piled], by simp [PyData.showableAll], by simp [PyData.hasDictAll]⟩
  | d :: ds, h => by
    have h : smallD d = true ∧ smallAll ds = true := by simpa [smallAll] using h
    obtain ⟨a1, a2, a3⟩ := small_shown d h.1
    obtain ⟨b1, b2, b3⟩ := small_shownAll ds h.2
    refine ⟨?_, by simp [PyData.showableAll, a2, b2], by simp [PyData.hasDictAll, a3, b3]⟩
    simp only [PyData.shownAll, nodesAll, piled_cons]
    omega
end
/-- data that repr may show -/
def ShowOk (d : PyData) : Prop := smallD d = true ∧ nodes d ≤ 600000 ∧ d.depth ≤ 60
instance (d : PyData) : Decidable (ShowOk d) := by unfold ShowOk; infer_instance
def rRepr : List V → Hp → VK → Prop := fun xs H Q => ∃ (a : Addr) (d : PyData), xs = [.ref a] ∧ Rp H (.ref a) d ∧ ShowOk d ∧ Q (.str d.shown) H
theorem call_reprD {X : Cx} (hg : X.A.guards = some []) (hu : X.A.units + 64 < cLine) : CallR X (.builtin "repr") rRepr := by
  intro pins s σ H xs us Q I r h
  obtain ⟨a, d, rfl, rp, ⟨ok, nd, dp⟩, q⟩ := h
  obtain ⟨h1, h2, h3⟩ := small_shown d ok
  cases r with
  | cons ra rn =>
    cases rn
    cases ra
    obtain ⟨as, reads⟩ := Dp.reads I d _ _ rp.dp rfl
    refine repr_of_reads' reads h2 (PyData.noDict_hsm h3) hg (by omega) (fun _ _ e => e) (fun h' u tk k => ⟨.str d.shown, H, I.kept k, ⟨u, rfl⟩, q⟩) ?_
    show d.shown.length ≤ 2 ^ 24
    omega
/-- small data: nodes, depth -/
def Sm (n k : Nat) (d : PyData) : Prop := smallD d = true ∧ nodes d ≤ n ∧ d.depth ≤ k
theorem Sm.imp {n k n' k' : Nat} {d : PyData} (h : Sm n k d) (a : n ≤ n') (b : k ≤ k') : Sm n' k' d := ⟨h.1, Nat.le_trans h.2.1 a, Nat.le_trans h.2.2 b⟩
theorem Sm.show {n k : Nat} {d : PyData} (h : Sm n k d) (a : n ≤ 600000 := by decide) (b : k ≤ 60 := by decide) : ShowOk d := h.imp a b
theorem sm_non : Sm 1 0 .none := ⟨by simp [smallD], by simp [nodes], by simp [PyData.depth]⟩
theorem sm_bool (b : Bool) : Sm 1 0 (.bool b) := ⟨by simp [smallD], by simp [nodes], by simp [PyData.depth]⟩
theorem sm_int {i : Int} (h : -10000000000000000000 < i ∧ i < 10000000000000000000) : Sm 1 0 (.int i) := ⟨by simp only [smallD, decide_eq_true_eq]; omega, by simp [nodes], by simp [PyData.depth]⟩
theorem sm_all {α : Type} {f : α → PyData} {n k : Nat} : ∀ {xs : List α}, (∀ x ∈ xs, Sm n k (f x)) → smallAll (xs.map f) = true ∧ nodesAll (xs.map f) ≤ xs.length * n ∧ PyData.depthAll (xs.map f) ≤ k
  | [], _ => ⟨by simp [smallAll], by simp [nodesAll], by simp [PyData.depthAll]⟩
  | x :: xs, h => by
    obtain ⟨a1, a2, a3⟩ := h x List.mem_cons_self
    obtain ⟨b1, b2, b3⟩ := sm_all fun y hy => h y (List.mem_cons_of_mem _ hy)
    refine ⟨by simp [smallAll, a1, b1], ?_, ?_⟩
    · simp only [List.map_cons, nodesAll, List.length_cons, Nat.succ_mul]
      omega
    · simp only [List.map_cons, PyData.depthAll]
      omega
theorem sm_L {α : Type} {f : α → PyData} {n k m : Nat} {xs : List α} (h : ∀ x ∈ xs, Sm n k (f x)) (hm : xs.length ≤ m) : Sm (1 + m * n) (k + 1) (encL f xs) := by
  obtain ⟨a1, a2, a3⟩ := sm_all h
  refine ⟨by simp [encL, smallD, a1], ?_, ?_⟩
  · have := Nat.mul_le_mul_right n hm
    simp only [encL, nodes]
    omega
  · simp only [encL, PyData.depth]
    omega
theorem sm_ints {xs : List Int} {m : Nat} (h : ∀ x ∈ xs, -10000000000000000000 < x ∧ x < 10000000000000000000) (hm : xs.length ≤ m) : Sm (1 + m * 1) 1 (encL PyData.int xs) := sm_L (fun x hx => sm_int (h x hx)) hm
theorem sm_T2 {α β : Type} {f : α → PyData} {g : β → PyData} {n k m j : Nat} {p : α × β} (h1 : Sm n k (f p.1)) (h2 : Sm m j (g p.2)) : Sm (1 + n + m) (max k j + 1) (encT2 f g p) := by
  obtain ⟨a1, a2, a3⟩ := h1
  obtain ⟨b1, b2, b3⟩ := h2
  refine ⟨by simp [encT2, smallD, smallAll, a1, b1], ?_, ?_⟩
  · simp only [encT2, nodes, nodesAll]
    omega
  · simp only [encT2, PyData.depth, PyData.depthAll]
    omega
theorem sm_T3 {α β γ : Type} {f : α → PyData} {g : β → PyData} {h : γ → PyData} {n k m j l i : Nat} {p : α × β × γ} (h1 : Sm n k (f p.1)) (h2 : Sm m j (g p.2.1)) (h3 : Sm l i (h p.2.2)) : Sm (1 + n + m + l) (max k (max j i) + 1) (encT3 f g h p) := by
  obtain ⟨a1, a2, a3⟩ := h1
  obtain ⟨b1, b2, b3⟩ := h2
  obtain ⟨c1, c2, c3⟩ := h3
  refine ⟨by simp [encT3, smallD, smallAll, a1, b1, c1], ?_, ?_⟩
  · simp only [encT3, nodes, nodesAll]
    omega
  · simp only [encT3, PyData.depth, PyData.depthAll]
    omega
end Vx
namespace Vx
open PySem PySem.Spec PyProof.Rows L2
theorem new_ne2 {H : Hp} {L : List Addr} {x : Addr} (n : ∀ b ∈ L, H b = none) (h : H x ≠ none) : ∀ b ∈ L, b ≠ x := fun b hb z => h (z ▸ n b hb)
theorem upd_tree {α : Type} {f : α → Dt} {G H H' : Hp} {L L1 : List Addr} {vs : List V} {xs : List α} {k : Int} {v : V} {m : Addr} {y : α} (up : ∀ H' y, (∀ b ∈ L, b ∉ L1 → ∀ o, H b = some o → H' b = some o) → Ow G H' L1 v (f y) → OwAll G H' L vs ((setL xs k y).map f)) (x : SameX m H H') (hm : m ∈ L1) (w : Ow G H' L1 v (f y)) :
    OwAll G H' L vs ((setL xs k y).map f) := up H' y (fun c _ n o q => x c o q (fun z => n (z ▸ hm))) w
theorem Ow.toFrz {α : Type} {f : α → PyData} {G H : Hp} {L : List Addr} {v : V} {x : α} (w : Ow G H L v (oF f x)) : L = [] ∧ Rp G v (f x) := by
  unfold oF at w
  cases w with
  | frz r => exact ⟨rfl, r⟩
section
variable {α : Type} {f : α → Dt} {G H : Hp} {L : List Addr} {vs : List V} {xs : List α}
theorem OwAll.pin {i : Nat} {v : V} {x : α} (w : OwAll G H L vs (xs.map f)) (h : vs[i]? = some v) (hx : xs[i]? = some x) : ∃ L1, Ow G H L1 v (f x) ∧ ∀ b ∈ L1, b ∈ L := by
  obtain ⟨y, L1, h1, h2, h3⟩ := OwAll.turn w h
  rw [hx] at h1
  cases h1
  exact ⟨L1, h2, h3⟩
theorem OwAll.pinInts {i : Nat} {b : Addr} {xs : List (List Int)} {x : List Int} (w : OwAll G H L vs (xs.map (oL oI))) (h : vs[i]? = some (.ref b)) (hx : xs[i]? = some x) : H b = some (.lst (x.map V.int)) ∧ b ∈ L := by
  obtain ⟨L1, w1, h1⟩ := OwAll.pin w h hx
  obtain ⟨c, e, rfl, h2⟩ := Ow.toInts w1
  cases e
  exact ⟨h2, h1 _ List.mem_cons_self⟩
end
end Vx
namespace Vx
open PySem PySem.Spec PyProof.Rows L2
theorem lookup_relab {c : Str → Bool} {y : Str} : ∀ l : List (Str × NameKind), (l.lookup y = some .cell ∨ l.lookup y = some .free) →
    ((l.map fun (n, k) => if (k == .free && c n) then (n, NameKind.cell) else (n, k)).lookup y = some .cell ∨ (l.map fun (n, k) => if (k == .free && c n) then (n, NameKind.cell) else (n, k)).lookup y = some .free)
  | [], h => by simp at h
  | (n, k) :: r, h => by
    rw [List.map_cons]
    dsimp only
    by_cases e : y == n
    · have hk : k = .cell ∨ k = .free := by
        rw [List.lookup_cons, e] at h
        simpa using h
      by_cases q : (k == .free && c n) = true
      · left
        rw [if_pos q, List.lookup_cons, e]
      · rw [if_neg q, List.lookup_cons, e]
        simpa using hk
    · have e : (y == n) = false := by simpa using e
      rw [List.lookup_cons, e] at h
      have ih := lookup_relab (c := c) r h
      by_cases q : (k == .free && c n) = true
      · rw [if_pos q, List.lookup_cons, e]
        exact ih
      · rw [if_neg q, List.lookup_cons, e]
        exact ih
theorem blk_relabel {N : List Str} {sc scope : Scope} {env : Env} {own : List (Str × Nat)} (h : BlkOk N sc scope own) : BlkOk N (relabel sc env) scope own := by
  refine ⟨h.kind, h.uniq, h.ix, fun y hy e => ?_, h.own⟩
  have z := lookup_relab (c := fun n => env.scope.kind == .function && env.kindOf n == some .cell) (y := y.1) sc.names (h.free y hy e)
  unfold relabel
  simpa only [Bool.and_assoc] using z
end Vx
namespace Vx
open PySem PySem.Spec PyProof.Rows L2
theorem FnG.low {P : Program} {w : World} {K : PySem.W.Frag} {mg : Str → Option Value} {base : Heap} {cx : CXT} {j k : Nat} {f : Addr} {fd : FuncData} {ps : List Str} {sp : Sp} (F : FnG P w K mg base cx j f fd ps sp) (h : j ≤ k) : FnG P w K mg base cx k f fd ps sp := ⟨F.len, fun A o s H a us vs Q E r => F.run A o s H a us vs Q E (r.low h)⟩
/-! ### a local name that holds one of several defs -/
structure HeldX (P : Program) (w : World) (K : PySem.W.Frag) (mg : Str → Option Value) (base : Heap) (k n : Nat) (f : Addr) (sp : Sp) : Prop where
  ex : ∃ (fd : FuncData) (ps : List Str), FnG P w K mg base (L2.CX P w) k f fd ps sp ∧ PySem.W.keepIn K (.ref f) = true ∧ Bnd K fd ps n [] (fun vs _ => vs)
theorem HeldX.of {P : Program} {w : World} {K : PySem.W.Frag} {mg : Str → Option Value} {base : Heap} {j k n : Nat} {x : Str} {sp : Sp} {pats : List Pat} {a : Addr} (c : CalX P w K mg base j x sp pats) (hx : mg x = some (.ref a)) (hp : (n, [], fun vs _ => vs) ∈ pats) (hj : j ≤ k) : HeldX P w K mg base k n a sp := by
  obtain ⟨f, fd, ps, F, hm, kp, b⟩ := c.ex
  rw [hx] at hm
  injection hm with hm
  injection hm with hm
  subst hm
  exact ⟨fd, ps, F.low hj, kp, b _ hp⟩
def tCallF (i n : Nat) (L : List (Addr × Sp)) (W : WX) (t : TA) : TE := fun σ H Q => ∃ f sp, σ[i]? = some (some (.ref f)) ∧ (f, sp) ∈ L ∧ t σ H fun vs H1 => vs.length = n ∧ ([] : List V).length = 0 ∧ sp vs H1 Q (WE W σ)
theorem vx_callF {X : Cx} {k j i n : Nat} {x : Str} {p pos : Pos} {e : Expr} {es : List Expr} {t : TA} {W : WX} (L : List (Addr × Sp)) (A : ∀ q ∈ L, HeldX X.prog X.w X.K X.mg X.base k n q.1 q.2) (hr : RoomG j X.A) (hk : k ≤ j) (tkW : Takes X W) (hN : X.N[i]? = some x) (hv : Vis X.env.scope x) (ha : PA X (e :: es) t)
    (hdb : (x == ("__debug__" : Str)) = false := by decide) (hcd : (x == ("__classdict__" : Str)) = false := by decide) (he : starEach (e :: es) X.env = (false, eval e X.env) :: starEach es X.env := by rfl) (hpl : (backTo pos (starEach es X.env)).any (·.1) = false := by rfl) :
    PE X (.Call (.Name x p) (e :: es) [] pos) (tCallF i n L W t) := by
  constructor
  intro pins s σ H Q I h
  obtain ⟨f, sp, slot, mem, rest⟩ := h
  obtain ⟨fd, ps, F, kp, b⟩ := (A _ mem).ex
  refine wpAny_Call_Name_kw (thn ((pe_var (pos := p) hN hv hdb hcd).run pins s σ H (fun v H1 => v = .ref f ∧ H1 = H) I ⟨.ref f, slot, rfl, rfl⟩) ?_)
  rintro u s1 ⟨v, H1, I1, r1, rfl, rfl⟩
  cases r1
  refine PySem.W.callWith_K (h₀ := X.base) I.ok.mod.kin kp (thn (ha.run pos pins s1 σ _ _ I1 rest) ?_) he hpl
  rintro us s2 ⟨vs, H2, I2, r, l1, l2, q⟩
  exact ⟨I2.kIn, run_X (us := us) (ws := []) (zs := []) F (hr.low hk) b tkW I2 r .nil l1 l2 q⟩
/-! ### the least of a list, the place of an item -/
def minL : List Int → Int
  | [] => 0
  | [x] => x
  | x :: y :: r => if x ≤ minL (y :: r) then x else minL (y :: r)
theorem minL_spec : ∀ (xs : List Int), xs ≠ [] → minL xs ∈ xs ∧ ∀ y ∈ xs, minL xs ≤ y
  | [], h => absurd rfl h
  | [x], _ => ⟨List.mem_cons_self, fun y hy => by rw [List.mem_singleton.mp hy]; exact Int.le_refl x⟩
  | x :: y :: r, _ => by
    obtain ⟨h1, h2⟩ := minL_spec (y :: r) (fun z => nomatch z)
    unfold minL
    split
    · refine ⟨List.mem_cons_self, fun z hz => ?_⟩
      rcases List.mem_cons.mp hz with rfl | hz
      · exact Int.le_refl _
      · have := h2 z hz
        omega
    · refine ⟨List.mem_cons_of_mem _ h1, fun z hz => ?_⟩
      rcases List.mem_cons.mp hz with rfl | hz
      · omega
      · exact h2 z hz
def maxL (xs : List Int) : Int := -(minL (xs.map fun x => -x))
theorem maxL_spec (xs : List Int) (h : xs ≠ []) : maxL xs ∈ xs ∧ ∀ y ∈ xs, y ≤ maxL xs := by
  obtain ⟨h1, h2⟩ := minL_spec (xs.map fun x => -x) (by simpa using h)
  obtain ⟨z, hz, e⟩ := List.mem_map.mp h1
  unfold maxL
  refine ⟨by rw [← e, Int.neg_neg]; exact hz, fun y hy => ?_⟩
  have := h2 _ (List.mem_map_of_mem hy)
  omega
section
variable {X : Cx} {K : PySem.W.Frag}
def rMinL (K : PySem.W.Frag) : List V → Hp → VK → Prop := fun vs H Q => ∃ (a : Addr) (ns : List Int), vs = [V.ref a] ∧ SqL K H a (ns.map V.int) ∧ ns ≠ [] ∧ Q (.int (minL ns)) H
def rMaxL (K : PySem.W.Frag) : List V → Hp → VK → Prop := fun vs H Q => ∃ (a : Addr) (ns : List Int), vs = [V.ref a] ∧ SqL K H a (ns.map V.int) ∧ ns ≠ [] ∧ Q (.int (maxL ns)) H
theorem cr_minL (hc : X.calm = true) (hK : X.K = K := by rfl) : CallR X (.builtin "min") (rMinL K) := by
  subst hK
  intro pins s σ H vs us Q I r h
  obtain ⟨a, ns, rfl, hs, hn, q⟩ := h
  refine cr_min hc pins s σ H _ us Q I r ⟨a, ns, rfl, hs, List.length_pos_iff.mpr hn, fun m hm hle => ?_⟩
  obtain ⟨h1, h2⟩ := minL_spec ns hn
  have e : m = minL ns := Int.le_antisymm (by have := hle _ h1; omega) (h2 m hm)
  rw [e]
  exact q
theorem cr_maxL (hc : X.calm = true) (hK : X.K = K := by rfl) : CallR X (.builtin "max") (rMaxL K) := by
  subst hK
  intro pins s σ H vs us Q I r h
  obtain ⟨a, ns, rfl, hs, hn, q⟩ := h
  refine cr_max hc pins s σ H _ us Q I r ⟨a, ns, rfl, hs, List.length_pos_iff.mpr hn, fun m hm hle => ?_⟩
  obtain ⟨h1, h2⟩ := maxL_spec ns hn
  have e : m = maxL ns := Int.le_antisymm (h2 m hm) (by have := hle _ h1; omega)
  rw [e]
  exact q
end
end Vx
namespace Vx
open PySem PySem.Spec PyProof.Rows L2
def idxL (ns : List Int) (i : Int) : Int := (ns.idxOf i : Nat)
def rIndexI (K : PySem.W.Frag) : V → List V → Hp → VK → Prop := fun x xs H Q => ∃ (a : Addr) (ns : List Int) (i : Int), x = V.ref a ∧ xs = [.int i] ∧ SqL K H a (ns.map V.int) ∧ i ∈ ns ∧ Q (.int (idxL ns i)) H
theorem mt_indexI {X : Cx} {K : PySem.W.Frag} (hK : X.K = K := by rfl) : MtR X "list.index" (rIndexI K) := by
  subst hK
  intro pins s σ H x xs v us Q I rx rxs h
  obtain ⟨a, ns, i, rfl, rfl, hs, hi, q⟩ := h
  have hl := List.idxOf_lt_length_of_mem hi
  refine mt_index pins s σ H _ _ v us Q I rx rxs ⟨a, _, .int i, ns.idxOf i, .int i, rfl, rfl, hs, rfl, flat_ints ns, ?_, by simp [eqV], fun m z hm hz => ?_, q⟩
  · rw [List.getElem?_map, List.getElem?_eq_getElem hl, List.getElem_idxOf hl] <;> rfl
  · rw [List.getElem?_map] at hz
    cases e : ns[m]? with
    | none => rw [e] at hz; cases hz
    | some y =>
      rw [e] at hz
      cases hz
      have hml : m < ns.length := by omega
      have hy : ns[m] = y := by
        rw [List.getElem?_eq_getElem hml] at e
        exact Option.some.inj e
      have := List.not_of_lt_findIdx (p := (· == i)) (xs := ns) (i := m) hm
      simp only [beq_iff_eq, hy] at this
      simp [eqV, this]
theorem cW_aftgo {σ ρ τ : Type} {s : σ} {kr : ρ → Rx τ} {k : σ → Rx τ} {K : τ → Prop} {E : Nat → Prop} (h : cW ((Lp.go s : Lp σ ρ).aft kr k) K E) : cW (k s) K E := h
end Vx
namespace Vx
open PySem PySem.Spec PyProof.Rows L2
/-! ### a truth value or a number beside a number -/
def Bi.num : Bi → Int
  | .b x => if x then 1 else 0
  | .n i => i
def Bi.dat : Bi → PyData
  | .b x => .bool x
  | .n i => .int i
section
variable {X : Cx}
def rEqBI : R2 := fun x y H Q => ∃ (b : Bi) (i : Int), x = biV b ∧ y = .int i ∧ Q (.bl (decide (b.num = i))) H
def rNeBI : R2 := fun x y H Q => ∃ (b : Bi) (i : Int), x = biV b ∧ y = .int i ∧ Q (.bl (!decide (b.num = i))) H
theorem eqv_bi (b : Bi) (i : Int) : PyData.eqv b.dat (.int i) = decide (b.num = i) := by
  cases b with
  | b x => cases x <;> (rw [Bool.eq_iff_iff]; simp [Bi.dat, Bi.num, PyData.eqv])
  | n j =>
    rw [Bool.eq_iff_iff]
    simp only [Bi.dat, Bi.num, PyData.eqv, beq_iff_eq]
    exact decide_eq_true_iff.symm
theorem dp_bi {K : PySem.W.Frag} {H : Hp} : ∀ b : Bi, Dp K H (biV b) b.dat
  | .b x => .bl x
  | .n i => .int i
theorem shaped_bi : ∀ b : Bi, SeqAt.shaped b.dat = true
  | .b x => by unfold SeqAt.shaped; simp [Bi.dat, PyData.canLay0, PyData.depth]
  | .n i => by unfold SeqAt.shaped; simp [Bi.dat, PyData.canLay0, PyData.depth]
theorem op_eqBI (hu : X.A.units + 64 < cLine) : OpR X (compareOp .Eq) rEqBI := by
  intro pins s σ H x y v u Q I rx ry h
  obtain ⟨b, i, rfl, rfl, q⟩ := h
  exact op_eqD hu pins s σ H _ _ v u Q I rx ry ⟨b.dat, .int i, dp_bi b, .int i, shaped_bi b, shaped_bi (.n i), by rw [eqv_bi]; exact q⟩
theorem op_neBI (hu : X.A.units + 64 < cLine) : OpR X (compareOp .NotEq) rNeBI := by
  intro pins s σ H x y v u Q I rx ry h
  obtain ⟨b, i, rfl, rfl, q⟩ := h
  exact op_neD hu pins s σ H _ _ v u Q I rx ry ⟨b.dat, .int i, dp_bi b, .int i, shaped_bi b, shaped_bi (.n i), by rw [eqv_bi]; exact q⟩
end
end Vx
namespace Vx
open PySem PySem.Spec PyProof.Rows L2
/-! ### == of own objects by an own __eq__ that never raises -/
section
variable {X : Cx} {k j : Nat}
def rEqX (C : Addr) (n mm : Nat) (sp : Sp) (g : List V → List V → List V) : R2 := fun x y H Q => ∃ (a b dx dy : Addr) (fs gs : List (Str × V)), x = .ref a ∧ y = .ref b ∧ H a = some (.ins C dx fs) ∧ H b = some (.ins C dy gs) ∧ 2 = n ∧ 0 = mm ∧ sp (g [x, y] []) H (fun v H' => (∃ r, v = .bl r) ∧ Q v H') E0
theorem op_eqX {C : Addr} {sp : Sp} {pats : List Pat} (c : MetX X.prog X.w X.K X.mg X.base k C "__eq__" sp pats) (pt : Pat) (hpt : pt ∈ pats) (hr : RoomG j X.A) (hk : k ≤ j) (hks : pt.2.1 = [] := by rfl) : OpR X (compareOp .Eq) (rEqX C pt.1 pt.2.1.length sp pt.2.2) := by
  intro pins s σ H x y v u Q I rx ry hq
  obtain ⟨a, b, dx, dy, fs, gs, rfl, rfl, ha, hb', l1, l2, q⟩ := hq
  obtain ⟨f, fd, ps, hc, hm, F, bb⟩ := c.ex
  cases rx
  cases ry
  obtain ⟨mA, J, _⟩ := ins_get I.hok ha
  obtain ⟨mB, J', _⟩ := ins_get I.hok hb'
  obtain ⟨od, J, _⟩ := J.look
  obtain ⟨od', J', _⟩ := J'.look
  obtain ⟨m, hF⟩ := I.fr
  have hz := run_X (us := [.ref a, .ref b]) (vs := [.ref a, .ref b]) (ws := []) (zs := []) F (hr.low hk) (bb pt hpt) (takes0 (X := X)) I (.cons rfl (.cons rfl .nil)) .nil l1 l2 q
  rw [hks] at hz
  show wpAny (model X.prog X.w) X.A (richCompare .Eq (.ref a) (.ref b)) (EP X pins σ Q) X.xe s
  refine PySem.W.cmp_K (op := .Eq) (tb := .ref C) (hr.low hk).toRoom.units0 hF I.ok.mod.kin J J'.type (by simp [PySem.W.notFirst]) hm.at_ hm.fn ?_
  refine wpAny_mono hz (fun r s' z => ?_) fun _ _ e => e
  obtain ⟨w, H', I', rw', ⟨⟨q1, rfl⟩, q2⟩⟩ := z
  cases rw'
  exact ⟨V.bl q1, H', I', rfl, q2⟩
end
end Vx
namespace Vx
open PySem PySem.Spec PyProof.Rows L2
/-! ### isinstance of the exception in hand: a built-in class, a tuple of classes -/
theorem kit_blt {K : PySem.W.Frag} {D : Addr} {T : String} {b : Bool} (h : PySem.W.subIn K (.ref D) (.type T) = some b) (h0 : PySem.W.kitMeta T = true := by decide +kernel) : PySem.W.kitOne K (.ref D) (.type T) = some b := by
  unfold PySem.W.kitOne
  rw [if_neg (show ¬ (Value.ref D == Value.type T) = true from fun z => nomatch (show false = true from z))]
  show (if PySem.W.kitMeta T = true then PySem.W.subIn K (.ref D) (.type T) else none) = some b
  rw [if_pos h0, h]
def rIsXB (K : PySem.W.Frag) (a : Addr) (cls : Value) (d : Option Addr) : List V → Hp → VK → Prop := fun xs H Q => ∃ (D : Addr) (T : String) (b : Bool), cls = .ref D ∧ d = none ∧ ExcC K D ∧ xs = [.ref a, .ty T] ∧ PySem.W.kitOne K (.ref D) (.type T) = some b ∧ Q (.bl b) H
theorem call_isXB {X : Cx} {K : PySem.W.Frag} {a : Addr} {cls : Value} {d : Option Addr} {oe : Obj} {pn : List (Addr × Obj)} (hz : Zc cls d oe) (hf : ∃ vs, oe.data = .fields vs) (hK : X.K = K := by rfl) : CallR (X.suite a ((a, oe) :: pn)) (.builtin "isinstance") (rIsXB K a cls d) := by
  subst hK
  intro pins s σ H xs us Q I r h
  obtain ⟨D, T, b, rfl, rfl, c, rfl, e, q⟩ := h
  exact call_isE c hz hf pins s σ H _ us Q I r ⟨_, _, b, rfl, fun u z => z, e, q⟩
def rIsXT (K : PySem.W.Frag) (a : Addr) (cls : Value) (d : Option Addr) : List V → Hp → VK → Prop := fun xs H Q => ∃ (D tp : Addr) (cs : List V) (ws : List Value) (b : Bool), cls = .ref D ∧ d = none ∧ ExcC K D ∧ xs = [.ref a, .ref tp] ∧ H tp = some (.tup cs) ∧ Paired ClsV cs ws ∧ PySem.W.kitAny K (.ref D) ws = some b ∧ Q (.bl b) H
theorem call_isXT {X : Cx} {K : PySem.W.Frag} {a : Addr} {cls : Value} {d : Option Addr} {oe : Obj} {pn : List (Addr × Obj)} (hz : Zc cls d oe) (hf : ∃ vs, oe.data = .fields vs) (hK : X.K = K := by rfl) : CallR (X.suite a ((a, oe) :: pn)) (.builtin "isinstance") (rIsXT K a cls d) := by
  subst hK
  intro pins s σ H xs us Q I r h
  obtain ⟨D, tp, cs, ws, b, rfl, rfl, C, rfl, hT, k, e, q⟩ := h
  cases r with
  | cons rx rr =>
    cases rr with
    | cons rt rr =>
      cases rr
      cases rx
      cases rt
      obtain ⟨hget, _⟩ := I.pin (a, oe) (List.mem_append.mpr (.inl List.mem_cons_self))
      obtain ⟨vs, hv⟩ := hf
      have J : PySem.W.InstAt s.heap a oe D none := by
        obtain ⟨oc, od, oda, osl⟩ := oe
        obtain ⟨h1, h2⟩ := hz
        dsimp only at h1 h2 hv
        subst h1 h2 hv
        exact ⟨hget, rfl, rfl, trivial⟩
      obtain ⟨_, its, rv, o, h1, h2, n, h3⟩ := (show ObjOk X.prog X.w H s.heap tp (.tup cs) from I.hok tp _ hT)
      have e3 := ClsV.all k rv
      subst e3
      obtain ⟨oc, od, dt, sl⟩ := o
      simp only at h2 h3
      subst h2 h3
      exact PySem.W.kia_tup (PySem.W.handS_kitx_exc C.hg C.hk C.hs C.hd C.ha C.hn C.ht C.hm) I.kIn J h1 e (fun z => nomatch z) fun tk => ⟨.bl b, H, I.kept (t' := tk) fun _ _ z => z, rfl, q⟩
theorem kit_self {K : PySem.W.Frag} {t : Value} (h : (t == t) = true := by simp) : PySem.W.kitOne K t t = some true := by
  unfold PySem.W.kitOne
  rw [if_pos h]
/-- what a class must say, so that isinstance asks its objects rightly -/
structure IsiC (K : PySem.W.Frag) (C : Addr) : Prop where
  ha : PySem.W.findIn K (.ref C) "__class__" = some (some (.builtin "object.__class__"))
  hn : PySem.W.specialIn K (.builtin "object.__class__") "__get__" = some (some (.builtin "getset_descriptor.__get__"))
  ht : PySem.W.takesIn K (.builtin "object.__class__") = some true
  hm : PySem.W.mroIn K C (.type "object") = some true
theorem tyX_ins {K : PySem.W.Frag} {H : Hp} {a C dx : Addr} {fs : List (Str × V)} (e : H a = some (.ins C dx fs)) (cl : Cls K C) (c : IsiC K C) : TyX K H (.ref a) (.ref C) := .base (.ins e cl c.ha c.hn c.ht c.hm)
end Vx
namespace Vx
open PySem PySem.Spec PyProof.Rows L2
theorem op_notTrue {X : Cx} : OpR X (compareOp .IsNot) (fun x y H Q => ∃ b : Bool, x = .bl b ∧ y = .bl true ∧ Q (.bl (!b)) H) := by
  intro pins s σ H x y v u Q I rx ry h
  obtain ⟨b, rfl, rfl, q⟩ := h
  cases rx
  cases ry
  show wpAny (model X.prog X.w) X.A (compareOp .IsNot (.bool b) (.bool true)) (EP X pins σ Q) X.xe s
  have e : compareOp .IsNot (.bool b) (.bool true) = pure (.bool (!b)) := by cases b <;> rfl
  rw [e]
  exact wpAny_pure ⟨.bl (!b), H, I, rfl, q⟩
end Vx
/-! # zip of any number of lists, the lists in a list -/
namespace Vz
open PySem PySem.Spec PyProof.Rows L2
/-- the iterators stand at n0, n0 + 1, .., behind them the tuple of iterators, the owned tuple, the zip itself -/
structure ZS (n0 : Nat) (ls : List Addr) (i : Nat) (h : Heap) : Prop where
  z : ∃ (x0 : Value) (f : Bool), (x0 = .none ∨ ∃ T : Nat, x0 = rawInt T) ∧ h.get? (n0 + ls.length + 2) = some { cls := .type "zip", dict := none, data := .fields #[x0, .bool f, .bool false, .ref (n0 + ls.length), .ref (n0 + ls.length + 1)], slots := #[] }
  ti : h.get? (n0 + ls.length) = some { cls := .type "tuple", data := .seq ((List.range ls.length).map fun j => Value.ref (n0 + j)).toArray }
  to : ∃ vs : List Value, vs.length = ls.length ∧ h.get? (n0 + ls.length + 1) = some { cls := .type "tuple", data := .seq vs.toArray }
  its : ∀ (j : Nat) (l : Addr), ls[j]? = some l → h.IsListIter (n0 + j) l i
def Out (n0 n c : Nat) : Prop := c < n0 ∨ n0 + n + 2 < c
section
variable {prog : Program} {w : World} {A : Around} {E : Value → Shared → Prop} {s : Shared}
/-- within a free turn, k iterators having moved on -/
structure FS (n0 : Nat) (ls : List Addr) (us : List Value) (i : Nat) (f : Bool) (h0 : Heap) (k : Nat) (h : Heap) : Prop where
  sz : h.objs.size = h0.objs.size
  out : ∀ c : Nat, Out n0 ls.length c → h.get? c = h0.get? c
  z : h.get? (n0 + ls.length + 2) = some { cls := .type "zip", dict := none, data := .fields #[.ellipsis, .bool f, .bool false, .ref (n0 + ls.length), .ref (n0 + ls.length + 1)], slots := #[] }
  ti : h.get? (n0 + ls.length) = some { cls := .type "tuple", data := .seq ((List.range ls.length).map fun j => Value.ref (n0 + j)).toArray }
  to : ∃ vs : List Value, vs.length = ls.length ∧ vs.take k = us.take k ∧ h.get? (n0 + ls.length + 1) = some { cls := .type "tuple", data := .seq vs.toArray }
  its : ∀ (j : Nat) (l : Addr), ls[j]? = some l → h.IsListIter (n0 + j) l (if j < k then i + 1 else i)
theorem nn {a b : Nat} (h : a ≠ b) : @Ne Addr a b := h
theorem iter_of {h h' : Heap} {a l : Addr} {i : Nat} (x : h.IsListIter a l i) (e : h'.get? a = h.get? a) : h'.IsListIter a l i := x.at fun o q => by rw [e]; exact q
theorem list_of {h h' : Heap} {a : Addr} {items : Array Value} (x : h.IsList a items) (e : h'.get? a = h.get? a) : h'.IsList a items := x.at fun o q => by rw [e]; exact q
theorem take_set {us vs : List Value} {k : Nat} {u : Value} (hl : vs.length = us.length) (ht : vs.take k = us.take k) (hu : us[k]? = some u) : (vs.set k u).take (k + 1) = us.take (k + 1) := by
  have hk : k < us.length := (List.getElem?_eq_some_iff.mp hu).1
  apply List.ext_getElem?
  intro j
  by_cases hj : j < k + 1
  · rw [List.getElem?_take_of_lt hj, List.getElem?_take_of_lt hj]
    by_cases e : j = k
    · subst e
      rw [List.getElem?_set_self (by omega), hu]
    · rw [List.getElem?_set_ne (fun z => e z.symm)]
      have := congrArg (fun l => l[j]?) ht
      simpa [List.getElem?_take_of_lt (show j < k by omega)] using this
  · rw [List.getElem?_take_eq_none (by omega), List.getElem?_take_eq_none (by omega)]
/-- one step of a free turn -/
theorem FS.step {n0 : Nat} {ls : List Addr} {us : List Value} {i k : Nat} {f : Bool} {h0 h h2 h3 : Heap} {u : Value} (F : FS n0 ls us i f h0 k h) (hk : k < ls.length) (hl : us.length = ls.length) (hu : us[k]? = some u) {l : Addr} (hll : ls[k]? = some l)
    (h2i : h2.IsListIter (n0 + k) l (i + 1)) (s2 : Heap.SameBut (n0 + k) h h2) {vs : List Value} (hvl : vs.length = ls.length) (hvt : vs.take k = us.take k) (s3 : Heap.SameBut (n0 + ls.length + 1) h2 h3)
    (e3 : h3.get? (n0 + ls.length + 1) = some { cls := .type "tuple", data := .seq (vs.set k u).toArray }) : FS n0 ls us i f h0 (k + 1) h3 := by
  refine ⟨by rw [s3.1, s2.1, F.sz], fun c hc => ?_, ?_, ?_, ⟨vs.set k u, by rw [List.length_set, hvl], take_set (by rw [hvl, hl]) hvt hu, e3⟩, fun j l' hj => ?_⟩
  · have h1 : (c : Nat) ≠ n0 + ls.length + 1 := by unfold Out at hc; omega
    have h2 : (c : Nat) ≠ n0 + k := by unfold Out at hc; omega
    rw [s3.2 c h1, s2.2 c h2, F.out c hc]
  · rw [s3.2 _ (nn (by omega)), s2.2 _ (nn (by omega))]; exact F.z
  · rw [s3.2 _ (nn (by omega)), s2.2 _ (nn (by omega))]; exact F.ti
  · have hjl : j < ls.length := (List.getElem?_eq_some_iff.mp hj).1
    by_cases e : j = k
    · subst e
      rw [hll] at hj
      cases hj
      rw [if_pos (by omega)]
      exact iter_of h2i (s3.2 _ (nn (by omega)))
    · have := F.its j l' hj
      have q : h3.get? (n0 + j) = h.get? (n0 + j) := by rw [s3.2 _ (nn (by omega)), s2.2 _ (nn (by omega))]
      by_cases hlt : j < k
      · rw [if_pos hlt] at this
        rw [if_pos (by omega)]
        exact iter_of this q
      · rw [if_neg hlt] at this
        rw [if_neg (by omega)]
        exact iter_of this q
/-- within a turn whose tuple is still out -/
structure HS (n0 : Nat) (ls : List Addr) (i : Nat) (x0 : Value) (f : Bool) (h0 : Heap) (k : Nat) (h : Heap) : Prop where
  sz : h.objs.size = h0.objs.size
  out : ∀ c : Nat, Out n0 ls.length c → h.get? c = h0.get? c
  z : h.get? (n0 + ls.length + 2) = some { cls := .type "zip", dict := none, data := .fields #[x0, .bool f, .bool false, .ref (n0 + ls.length), .ref (n0 + ls.length + 1)], slots := #[] }
  ti : h.get? (n0 + ls.length) = some { cls := .type "tuple", data := .seq ((List.range ls.length).map fun j => Value.ref (n0 + j)).toArray }
  to : ∃ vs : List Value, vs.length = ls.length ∧ h.get? (n0 + ls.length + 1) = some { cls := .type "tuple", data := .seq vs.toArray }
  its : ∀ (j : Nat) (l : Addr), ls[j]? = some l → h.IsListIter (n0 + j) l (if j < k then i + 1 else i)
theorem HS.step {n0 : Nat} {ls : List Addr} {i k : Nat} {x0 : Value} {f : Bool} {h0 h h2 : Heap} (F : HS n0 ls i x0 f h0 k h) (hk : k < ls.length) {l : Addr} (hll : ls[k]? = some l)
    (h2i : h2.IsListIter (n0 + k) l (i + 1)) (s2 : Heap.SameBut (n0 + k) h h2) : HS n0 ls i x0 f h0 (k + 1) h2 := by
  obtain ⟨vs, hvl, e⟩ := F.to
  refine ⟨by rw [s2.1, F.sz], fun c hc => ?_, ?_, ?_, ⟨vs, hvl, ?_⟩, fun j l' hj => ?_⟩
  · have h2 : (c : Nat) ≠ n0 + k := by unfold Out at hc; omega
    rw [s2.2 c h2, F.out c hc]
  · rw [s2.2 _ (nn (by omega))]; exact F.z
  · rw [s2.2 _ (nn (by omega))]; exact F.ti
  · rw [s2.2 _ (nn (by omega))]; exact e
  · have hjl : j < ls.length := (List.getElem?_eq_some_iff.mp hj).1
    by_cases e : j = k
    · subst e
      rw [hll] at hj
      cases hj
      rw [if_pos (by omega)]
      exact h2i
    · have := F.its j l' hj
      have q : h2.get? (n0 + j) = h.get? (n0 + j) := s2.2 _ (nn (by omega))
      by_cases hlt : j < k
      · rw [if_pos hlt] at this
        rw [if_pos (by omega)]
        exact iter_of this q
      · rw [if_neg hlt] at this
        rw [if_neg (by omega)]
        exact iter_of this q
end
theorem drop_cons {α : Type} {x : α} {rest l : List α} {k : Nat} (e : x :: rest = l.drop k) : l[k]? = some x ∧ rest = l.drop (k + 1) := by
  constructor
  · have := congrArg (fun q => q[0]?) e
    simpa using this.symm
  · have := congrArg List.tail e
    simpa [List.tail_drop] using this
theorem zi_at {n n0 k : Nat} {x : Value × Nat} (h : (((List.range n).map fun j => Value.ref (n0 + j)).zipIdx)[k]? = some x) : k < n ∧ x = (Value.ref (n0 + k), k) := by
  rw [List.getElem?_zipIdx, List.getElem?_map] at h
  by_cases hk : k < n
  · rw [List.getElem?_range hk] at h
    simp at h
    exact ⟨hk, h.symm⟩
  · rw [List.getElem?_eq_none (by simpa using hk)] at h
    cases h
theorem it_at {n n0 k : Nat} {x : Value} (h : ((List.range n).map fun j => Value.ref (n0 + j))[k]? = some x) : k < n ∧ x = Value.ref (n0 + k) := by
  rw [List.getElem?_map] at h
  by_cases hk : k < n
  · rw [List.getElem?_range hk] at h
    simp at h
    exact ⟨hk, h.symm⟩
  · rw [List.getElem?_eq_none (by simpa using hk)] at h
    cases h
section
variable {prog : Program} {w : World} {A : Around} {E : Value → Shared → Prop} {s : Shared}
theorem alive {a : Addr} {Q : Option Obj → Shared → Prop} (h : Q (s.heap.get? a) s) : wpAny (model prog w) A (loadIfAlive a) Q E s := fun _ _ _ => h
/-- what is asked of the lists: all have an item at i; or one has none -/
def Has (h : Heap) (ls : List Addr) (i : Nat) (us : List Value) : Prop := ∀ (j : Nat) (l : Addr) (u : Value), ls[j]? = some l → us[j]? = some u → ∃ xs : Array Value, h.IsList l xs ∧ xs[i]? = some u
theorem next_item {n0 : Nat} {ls : List Addr} {us : List Value} {i : Nat} {Q : Value → Shared → Prop} (hne : ls ≠ []) (hsz : ls.length ≤ 1000000) (st : ZS n0 ls i s.heap) (hl : us.length = ls.length) (low : ∀ l ∈ ls, (l : Nat) < n0)
    (hi : Has s.heap ls i us)
    (hQ : ∀ h', ZS n0 ls (i + 1) h' → h'.get? s.heap.objs.size = some { cls := .type "tuple", data := .seq us.toArray } → h'.objs.size = s.heap.objs.size + 1 →
      (∀ c : Nat, Out n0 ls.length c → ∀ o, s.heap.get? c = some o → h'.get? c = some o) → Q (.ref s.heap.objs.size) { s with heap := h' }) :
    wpAny (model prog w) A (Builtin.«zip.__next__» ⟨[.ref (n0 + ls.length + 2)], []⟩) (fun fin s' => ∃ v, fin = .done (.ret v) ∧ Q v s') E s := by
  obtain ⟨⟨x0, f, hx0, hz⟩, hTI, ⟨vs, hvl, hTO⟩, hits⟩ := st
  have hnz : 0 < ls.length := by cases ls with | nil => exact absurd rfl hne | cons a r => exact Nat.succ_pos _
  have hb : s.heap.objs.size > n0 + ls.length + 2 := Heap.lt_size hz
  show wpAny _ _ (field (.ref (n0 + ls.length + 2)) 2 >>= _) _ _ _
  refine wpAny_bind (wpAny_field hz rfl (x := .bool false) rfl ?_)
  show wpAny _ _ (field (.ref (n0 + ls.length + 2)) 3 >>= _) _ _ _
  refine wpAny_bind (wpAny_field hz rfl (x := .ref (n0 + ls.length)) rfl ?_)
  refine wpAny_bind (wpAny_seqItems hTI rfl ?_)
  have hemp : (((List.range ls.length).map fun j => Value.ref (n0 + j)).toArray).isEmpty = false := by
    simp
    intro z; exact hne z
  simp only []
  rw [if_neg (by rw [hemp]; exact Bool.false_ne_true)]
  show wpAny _ _ (Builtin.SmallTypes.ownedTupleIsFree (.ref (n0 + ls.length + 2)) >>= _) _ _ _
  refine wpAny_bind ?_
  -- two ways
  refine wpAny_mono (Q := fun b s' => (b = true ∧ s' = s) ∨ (b = false ∧ ∃ h f', s' = { s with heap := h } ∧ Heap.SameBut (n0 + ls.length + 2) s.heap h ∧ h.get? (n0 + ls.length + 2) = some { cls := .type "zip", dict := none, data := .fields #[x0, .bool f', .bool false, .ref (n0 + ls.length), .ref (n0 + ls.length + 1)], slots := #[] })) (E := fun _ _ => False) ?_ ?_ (fun _ _ z => z.elim)
  · unfold Builtin.SmallTypes.ownedTupleIsFree
    rcases hx0 with rfl | ⟨T, rfl⟩
    · exact wpAny_bind (wpAny_field hz rfl (x := .none) rfl (wpAny_pure (.inl ⟨rfl, rfl⟩)))
    · refine wpAny_bind (wpAny_field hz rfl (x := rawInt T) rfl ?_)
      show wpAny _ _ (loadIfAlive ((T : Int).toNat) >>= _) _ _ _
      rw [Int.toNat_natCast]
      refine wpAny_bind ?_
      cases hT : s.heap.get? T with
      | none =>
        refine alive ?_
        rw [hT]
        simp only [Option.isNone_none, if_true]
        exact wpAny_pure (.inl ⟨rfl, rfl⟩)
      | some oT =>
        refine alive ?_
        rw [hT]
        simp only [Option.isNone_some, Bool.false_eq_true, if_false]
        refine wpAny_bind (wpAny_field hz rfl (x := .bool f) rfl ?_)
        cases f with
        | true =>
          rw [if_neg (show ¬ ((Value.bool true != Value.bool true) = true) from Bool.false_ne_true)]
          exact wpAny_pure (.inr ⟨rfl, s.heap, true, rfl, Heap.SameBut.refl _ _, hz⟩)
        | false =>
          rw [if_pos (show (Value.bool false != Value.bool true) = true from rfl)]
          exact wpAny_bind (wpAny_setField_rec hz (by simp) fun h₁ hz₁ hs₁ => wpAny_pure (.inr ⟨rfl, h₁, true, rfl, hs₁, hz₁⟩))
  rintro b s1 (⟨rfl, rfl⟩ | ⟨rfl, h₀, f', rfl, hs₀, hz₀⟩)
  · -- the tuple is free
    simp only [if_true]
    refine wpAny_bind (wpAny_rule ?_)
    refine wpAny_bind (wpAny_field hz rfl (x := .ref (n0 + ls.length + 1)) rfl ?_)
    refine wpAny_bind (wpAny_setField_rec hz (by simp) fun h₁ hz₁ hs₁ => ?_)
    refine wpAny_bind ?_
    have F0 : FS n0 ls us i f s1.heap 0 h₁ := by
      refine ⟨hs₁.1, fun c hc => hs₁.2 c (nn (by unfold Out at hc; omega)), hz₁, ?_, ⟨vs, hvl, by simp, ?_⟩, fun j l hj => ?_⟩
      · rw [hs₁.2 _ (nn (by omega))]; exact hTI
      · rw [hs₁.2 _ (nn (by omega))]; exact hTO
      · have hjl : j < ls.length := (List.getElem?_eq_some_iff.mp hj).1
        rw [if_neg (Nat.not_lt_zero _)]
        exact iter_of (hits j l hj) (hs₁.2 _ (nn (by omega)))
    refine wpAny_forIn_list _ (fun rest b s' => ∃ k h, b = (none, ()) ∧ rest = (((List.range ls.length).map fun j => Value.ref (n0 + j)).zipIdx).drop k ∧ k ≤ ls.length ∧ s' = { s1 with heap := h } ∧ FS n0 ls us i f s1.heap k h) _ ?_ ?_ _ _ ⟨0, h₁, rfl, rfl, Nat.zero_le _, rfl, F0⟩
    · rintro x rest b _ ⟨k, h, rfl, hrest, hk, rfl, F⟩
      obtain ⟨hx, hr⟩ := drop_cons hrest
      obtain ⟨hkl, rfl⟩ := zi_at hx
      obtain ⟨l, hll⟩ : ∃ l, ls[k]? = some l := ⟨_, List.getElem?_eq_getElem hkl⟩
      obtain ⟨u, hu⟩ : ∃ u, us[k]? = some u := ⟨_, List.getElem?_eq_getElem (by omega)⟩
      obtain ⟨xs, hxs, hxi⟩ := hi k l u hll hu
      have lo := low l (List.mem_of_getElem? hll)
      have hit := F.its k l hll
      rw [if_neg (Nat.lt_irrefl _)] at hit
      refine wpAny_bind (wpAny_onRaise ?_)
      show wpAny _ _ (Builtin.SmallTypes.nextOf (.ref (n0 + k)) >>= _) _ _ _
      refine wpAny_bind (wpAny_nextOf_list_item hit (list_of hxs (F.out l (.inl lo))) hxi fun h₂ h2i hs₂ => wpAny_pure ?_)
      obtain ⟨vs', hvl', hvt', hto'⟩ := F.to
      have hto2 : h₂.get? (n0 + ls.length + 1) = some { cls := .type "tuple", data := .seq vs'.toArray } := by rw [hs₂.2 _ (nn (by omega))]; exact hto'
      refine wpAny_bind (wpAny_seqItems hto2 rfl ?_)
      refine wpAny_bind (wpAny_updateSeq hto2 rfl ?_ (by simp [hvl']; show _ ≤ sizeLine; unfold sizeLine; omega) (by simp [hvl']; show _ ≤ sizeLine + 1; unfold sizeLine; omega))
      refine wpAny_bind (wpAny_letGo (wpAny_pure ?_))
      refine ⟨k + 1, _, rfl, hr, hkl, rfl, F.step hkl hl hu hll h2i hs₂ hvl' hvt' (Heap.SameBut.update ..) ?_⟩
      rw [Heap.get?_update_self _ hto2 rfl]
      simp [Obj.mapSeq]
    · rintro b _ ⟨k, h, rfl, hrest, hk, rfl, F⟩
      have hkn : k = ls.length := by
        have := congrArg List.length hrest
        simp at this
        omega
      subst hkn
      obtain ⟨vs', hvl', hvt', hto'⟩ := F.to
      have hvu : vs' = us := by rw [List.take_of_length_le (by omega), List.take_of_length_le (by omega)] at hvt'; exact hvt'
      subst hvu
      refine wpAny_bind (wpAny_seqItems hto' rfl ?_)
      refine wpAny_bind (wpAny_newTuple ?_ (by simp [hvl']; unfold sizeLine; omega))
      show wpAny _ _ (Builtin.SmallTypes.ownedTupleHandOut (.ref (n0 + ls.length + 2)) (.ref h.objs.size) >>= _) _ _ _
      refine wpAny_bind ?_
      unfold Builtin.SmallTypes.ownedTupleHandOut
      have hz₆ := Heap.get?_push_of_some { cls := .type "tuple", data := .seq vs'.toArray } F.z
      have hTT : (h.push { cls := .type "tuple", data := .seq vs'.toArray }).get? h.objs.size = some { cls := .type "tuple", data := .seq vs'.toArray } := Heap.get?_push_size _ rfl
      refine wpAny_bind (wpAny_setField_rec (s := { s1 with heap := h.push _ }) hz₆ (by simp) fun h₇ hz₇ hs₇ => ?_)
      refine wpAny_setField_rec (s := { s1 with heap := h₇ }) hz₇ (by simp) fun h₈ hz₈ hs₈ => ?_
      have hsz' : h.objs.size = s1.heap.objs.size := F.sz
      have up : ∀ c : Nat, c ≠ n0 + ls.length + 2 → ∀ o, h.get? c = some o → h₈.get? c = some o := fun c c1 o e => by
        rw [hs₈.2 c (nn c1), hs₇.2 c (nn c1)]
        exact Heap.get?_push_of_some _ e
      refine wpAny_pure ⟨_, rfl, ?_⟩
      show Q (.ref h.objs.size) _
      rw [hsz']
      refine hQ h₈ ⟨⟨_, _, .inr ⟨_, rfl⟩, hz₈⟩, up _ (by omega) _ F.ti, ⟨vs', hvl', up _ (by omega) _ hto'⟩, fun j l hj => ?_⟩ ?_ ?_ ?_
      · have hjl : j < ls.length := (List.getElem?_eq_some_iff.mp hj).1
        have := F.its j l hj
        rw [if_pos hjl] at this
        exact this.at fun o q => up _ (by omega) _ q
      · rw [← hsz', hs₈.2 _ (nn (by omega)), hs₇.2 _ (nn (by omega))]
        exact hTT
      · rw [hs₈.1, hs₇.1, Heap.size_push, hsz']
      · intro c hc o q
        have hc' := hc
        unfold Out at hc
        exact up c (by omega) o (by rw [F.out c hc']; exact q)
  · simp only [Bool.false_eq_true, if_false]
    refine wpAny_bind ?_
    have F0 : HS n0 ls i x0 f' s.heap 0 h₀ := by
      refine ⟨hs₀.1, fun c hc => hs₀.2 c (nn (by unfold Out at hc; omega)), hz₀, ?_, ⟨vs, hvl, ?_⟩, fun j l hj => ?_⟩
      · rw [hs₀.2 _ (nn (by omega))]; exact hTI
      · rw [hs₀.2 _ (nn (by omega))]; exact hTO
      · have hjl : j < ls.length := (List.getElem?_eq_some_iff.mp hj).1
        rw [if_neg (Nat.not_lt_zero _)]
        exact iter_of (hits j l hj) (hs₀.2 _ (nn (by omega)))
    rw [← Array.forIn_toList]
    refine wpAny_forIn_list _ (fun rest b s' => ∃ k h, b = (none, (us.take k).toArray) ∧ rest = ((List.range ls.length).map fun j => Value.ref (n0 + j)).drop k ∧ k ≤ ls.length ∧ s' = { s with heap := h } ∧ HS n0 ls i x0 f' s.heap k h) _ ?_ ?_ _ _ ⟨0, h₀, by simp, by simp, Nat.zero_le _, rfl, F0⟩
    · rintro x rest b _ ⟨k, h, rfl, hrest, hk, rfl, F⟩
      obtain ⟨hx, hr⟩ := drop_cons hrest
      obtain ⟨hkl, rfl⟩ := it_at hx
      obtain ⟨l, hll⟩ : ∃ l, ls[k]? = some l := ⟨_, List.getElem?_eq_getElem hkl⟩
      obtain ⟨u, hu⟩ : ∃ u, us[k]? = some u := ⟨_, List.getElem?_eq_getElem (by omega)⟩
      obtain ⟨xs, hxs, hxi⟩ := hi k l u hll hu
      have lo := low l (List.mem_of_getElem? hll)
      have hit := F.its k l hll
      rw [if_neg (Nat.lt_irrefl _)] at hit
      refine wpAny_bind (wpAny_holding ?_)
      show wpAny _ _ (Builtin.SmallTypes.nextOf (.ref (n0 + k)) >>= _) _ _ _
      refine wpAny_bind (wpAny_nextOf_list_item hit (list_of hxs (F.out l (.inl lo))) hxi fun h₂ h2i hs₂ => wpAny_pure ?_)
      refine wpAny_pure ⟨k + 1, h₂, ?_, hr, hkl, rfl, F.step hkl hll h2i hs₂⟩
      rw [List.take_succ, hu]
      simp
    · rintro b _ ⟨k, h, rfl, hrest, hk, rfl, F⟩
      have hkn : k = ls.length := by
        have := congrArg List.length hrest
        simp at this
        omega
      subst hkn
      have hut : us.take ls.length = us := List.take_of_length_le (by omega)
      rw [hut]
      refine wpAny_bind (wpAny_newTuple ?_ (by simp [hl]; unfold sizeLine; omega))
      refine wpAny_pure ⟨_, rfl, ?_⟩
      have hsz' : h.objs.size = s.heap.objs.size := F.sz
      show Q (.ref h.objs.size) _
      have hT : (h.push { cls := .type "tuple", data := .seq us.toArray }).get? h.objs.size = some { cls := .type "tuple", data := .seq us.toArray } := Heap.get?_push_size _ rfl
      have up : ∀ (c : Nat) o, h.get? c = some o → (h.push { cls := .type "tuple", data := .seq us.toArray }).get? c = some o := fun c o e => Heap.get?_push_of_some _ e
      rw [hsz']
      obtain ⟨vs', hvl', hto'⟩ := F.to
      refine hQ (h.push { cls := .type "tuple", data := .seq us.toArray }) ⟨⟨x0, f', hx0, up _ _ F.z⟩, up _ _ F.ti, ⟨vs', hvl', up _ _ hto'⟩, fun j l hj => ?_⟩ ?_ ?_ ?_
      · have hjl : j < ls.length := (List.getElem?_eq_some_iff.mp hj).1
        have := F.its j l hj
        rw [if_pos hjl] at this
        exact this.at fun o q => up _ _ q
      · rw [← hsz']
        exact hT
      · rw [Heap.size_push, hsz']
      · intro c hc o q
        exact up c o (by rw [F.out c hc]; exact q)
theorem HS.step2 {n0 : Nat} {ls : List Addr} {i k : Nat} {x0 : Value} {f : Bool} {h0 h h2 h3 : Heap} (F : HS n0 ls i x0 f h0 k h) (hk : k < ls.length) {l : Addr} (hll : ls[k]? = some l)
    (h2i : h2.IsListIter (n0 + k) l (i + 1)) (s2 : Heap.SameBut (n0 + k) h h2) (s3 : Heap.SameBut (n0 + ls.length + 1) h2 h3) {vs : List Value} (hvl : vs.length = ls.length) (e3 : h3.get? (n0 + ls.length + 1) = some { cls := .type "tuple", data := .seq vs.toArray }) : HS n0 ls i x0 f h0 (k + 1) h3 := by
  have G := F.step hk hll h2i s2
  refine ⟨by rw [s3.1, G.sz], fun c hc => ?_, ?_, ?_, ⟨vs, hvl, e3⟩, fun j l' hj => ?_⟩
  · rw [s3.2 c (nn (by unfold Out at hc; omega)), G.out c hc]
  · rw [s3.2 _ (nn (by omega))]; exact G.z
  · rw [s3.2 _ (nn (by omega))]; exact G.ti
  · have hjl : j < ls.length := (List.getElem?_eq_some_iff.mp hj).1
    exact iter_of (G.its j l' hj) (s3.2 _ (nn (by omega)))
theorem next_end {n0 : Nat} {ls : List Addr} {i : Nat} {Q : Fin → Shared → Prop} (hh : A.handled = none) (hsz : ls.length ≤ 1000000) (st : ZS n0 ls i s.heap) (low : ∀ l ∈ ls, (l : Nat) < n0)
    (hls : ∀ (j : Nat) (l : Addr), ls[j]? = some l → ∃ xs : Array Value, s.heap.IsList l xs) (hend : ∃ (j : Nat) (l : Addr), ls[j]? = some l ∧ ∀ xs : Array Value, s.heap.IsList l xs → xs[i]? = none)
    (hE : ∀ h' e, (∀ c : Nat, Out n0 ls.length c → ∀ o, s.heap.get? c = some o → h'.get? c = some o) → (∃ o, h'.get? e = some o ∧ o.cls = .type "StopIteration") → E (.ref e) { s with heap := h' }) :
    wpAny (model prog w) A (Builtin.«zip.__next__» ⟨[.ref (n0 + ls.length + 2)], []⟩) Q E s := by
  obtain ⟨⟨x0, f, hx0, hz⟩, hTI, ⟨vs, hvl, hTO⟩, hits⟩ := st
  obtain ⟨jm, lm, hjm, hnone⟩ := hend
  have hjml : jm < ls.length := (List.getElem?_eq_some_iff.mp hjm).1
  have hb : s.heap.objs.size > n0 + ls.length + 2 := Heap.lt_size hz
  show wpAny _ _ (field (.ref (n0 + ls.length + 2)) 2 >>= _) _ _ _
  refine wpAny_bind (wpAny_field hz rfl (x := .bool false) rfl ?_)
  show wpAny _ _ (field (.ref (n0 + ls.length + 2)) 3 >>= _) _ _ _
  refine wpAny_bind (wpAny_field hz rfl (x := .ref (n0 + ls.length)) rfl ?_)
  refine wpAny_bind (wpAny_seqItems hTI rfl ?_)
  have hemp : (((List.range ls.length).map fun j => Value.ref (n0 + j)).toArray).isEmpty = false := by
    simp
    intro z; subst z; exact Nat.not_lt_zero _ hjml
  simp only []
  rw [if_neg (by rw [hemp]; exact Bool.false_ne_true)]
  show wpAny _ _ (Builtin.SmallTypes.ownedTupleIsFree (.ref (n0 + ls.length + 2)) >>= _) _ _ _
  refine wpAny_bind ?_
  refine wpAny_mono (Q := fun b s' => (b = true ∧ s' = s) ∨ (b = false ∧ ∃ h f', s' = { s with heap := h } ∧ Heap.SameBut (n0 + ls.length + 2) s.heap h ∧ h.get? (n0 + ls.length + 2) = some { cls := .type "zip", dict := none, data := .fields #[x0, .bool f', .bool false, .ref (n0 + ls.length), .ref (n0 + ls.length + 1)], slots := #[] })) (E := fun _ _ => False) ?_ ?_ (fun _ _ z => z.elim)
  · unfold Builtin.SmallTypes.ownedTupleIsFree
    rcases hx0 with rfl | ⟨T, rfl⟩
    · exact wpAny_bind (wpAny_field hz rfl (x := .none) rfl (wpAny_pure (.inl ⟨rfl, rfl⟩)))
    · refine wpAny_bind (wpAny_field hz rfl (x := rawInt T) rfl ?_)
      show wpAny _ _ (loadIfAlive ((T : Int).toNat) >>= _) _ _ _
      rw [Int.toNat_natCast]
      refine wpAny_bind ?_
      cases hT : s.heap.get? T with
      | none =>
        refine alive ?_
        rw [hT]
        simp only [Option.isNone_none, if_true]
        exact wpAny_pure (.inl ⟨rfl, rfl⟩)
      | some oT =>
        refine alive ?_
        rw [hT]
        simp only [Option.isNone_some, Bool.false_eq_true, if_false]
        refine wpAny_bind (wpAny_field hz rfl (x := .bool f) rfl ?_)
        cases f with
        | true =>
          rw [if_neg (show ¬ ((Value.bool true != Value.bool true) = true) from Bool.false_ne_true)]
          exact wpAny_pure (.inr ⟨rfl, s.heap, true, rfl, Heap.SameBut.refl _ _, hz⟩)
        | false =>
          rw [if_pos (show (Value.bool false != Value.bool true) = true from rfl)]
          exact wpAny_bind (wpAny_setField_rec hz (by simp) fun h₁ hz₁ hs₁ => wpAny_pure (.inr ⟨rfl, h₁, true, rfl, hs₁, hz₁⟩))
  rintro b s1 (⟨rfl, rfl⟩ | ⟨rfl, h₀, f', rfl, hs₀, hz₀⟩)
  · simp only [if_true]
    refine wpAny_bind (wpAny_rule ?_)
    refine wpAny_bind (wpAny_field hz rfl (x := .ref (n0 + ls.length + 1)) rfl ?_)
    refine wpAny_bind (wpAny_setField_rec hz (by simp) fun h₁ hz₁ hs₁ => ?_)
    refine wpAny_bind ?_
    have F0 : HS n0 ls i .ellipsis f s1.heap 0 h₁ := by
      refine ⟨hs₁.1, fun c hc => hs₁.2 c (nn (by unfold Out at hc; omega)), hz₁, ?_, ⟨vs, hvl, ?_⟩, fun j l hj => ?_⟩
      · rw [hs₁.2 _ (nn (by omega))]; exact hTI
      · rw [hs₁.2 _ (nn (by omega))]; exact hTO
      · have hjl : j < ls.length := (List.getElem?_eq_some_iff.mp hj).1
        rw [if_neg (Nat.not_lt_zero _)]
        exact iter_of (hits j l hj) (hs₁.2 _ (nn (by omega)))
    refine wpAny_forIn_list _ (fun rest b s' => ∃ k h, b = (none, ()) ∧ rest = (((List.range ls.length).map fun j => Value.ref (n0 + j)).zipIdx).drop k ∧ k ≤ jm ∧ s' = { s1 with heap := h } ∧ HS n0 ls i .ellipsis f s1.heap k h) _ ?_ ?_ _ _ ⟨0, h₁, rfl, rfl, Nat.zero_le _, rfl, F0⟩
    · rintro x rest b _ ⟨k, h, rfl, hrest, hk, rfl, F⟩
      obtain ⟨hx, hr⟩ := drop_cons hrest
      obtain ⟨hkl, rfl⟩ := zi_at hx
      obtain ⟨l, hll⟩ : ∃ l, ls[k]? = some l := ⟨_, List.getElem?_eq_getElem hkl⟩
      obtain ⟨xs, hxs⟩ := hls k l hll
      have lo := low l (List.mem_of_getElem? hll)
      have hit := F.its k l hll
      rw [if_neg (Nat.lt_irrefl _)] at hit
      refine wpAny_bind (wpAny_onRaise ?_)
      show wpAny _ _ (Builtin.SmallTypes.nextOf (.ref (n0 + k)) >>= _) _ _ _
      cases hxi : xs[i]? with
      | none =>
        refine wpAny_bind (wpAny_nextOf_list_end hh hit (list_of hxs (F.out l (.inl lo))) hxi fun h₂ e hs₂ he => ?_)
        obtain ⟨oe, hoe, hce⟩ := he
        have hz₂ := hs₂ _ _ (nn (show n0 + ls.length + 2 ≠ n0 + k by omega)) F.z
        have hez : e ≠ (n0 + ls.length + 2 : Nat) := fun x => by subst x; rw [hz₂] at hoe; cases hoe; simp at hce
        refine wpAny_setField_rec (s := { s1 with heap := h₂ }) hz₂ (by simp) fun h₃ _ hs₃ => hE h₃ e (fun c hc o q => ?_) ⟨oe, hs₃.extBut _ _ hez hoe, hce⟩
        have hc' := hc
        unfold Out at hc
        exact hs₃.extBut _ _ (nn (by omega)) (hs₂ _ _ (nn (by omega)) (by rw [F.out c hc']; exact q))
      | some u =>
        refine wpAny_bind (wpAny_nextOf_list_item hit (list_of hxs (F.out l (.inl lo))) hxi fun h₂ h2i hs₂ => wpAny_pure ?_)
        obtain ⟨vs', hvl', hto'⟩ := F.to
        have hto2 : h₂.get? (n0 + ls.length + 1) = some { cls := .type "tuple", data := .seq vs'.toArray } := by rw [hs₂.2 _ (nn (by omega))]; exact hto'
        refine wpAny_bind (wpAny_seqItems hto2 rfl ?_)
        refine wpAny_bind (wpAny_updateSeq hto2 rfl ?_ (by simp [hvl']; show _ ≤ sizeLine; unfold sizeLine; omega) (by simp [hvl']; show _ ≤ sizeLine + 1; unfold sizeLine; omega))
        refine wpAny_bind (wpAny_letGo (wpAny_pure ?_))
        have hkj : k ≠ jm := by
          rintro rfl
          rw [hll] at hjm
          cases hjm
          rw [hnone xs hxs] at hxi
          cases hxi
        refine ⟨k + 1, _, rfl, hr, by omega, rfl, F.step2 (vs := vs'.set k u) hkl hll h2i hs₂ (Heap.SameBut.update ..) (by rw [List.length_set, hvl']) ?_⟩
        rw [Heap.get?_update_self _ hto2 rfl]
        simp [Obj.mapSeq]
    · rintro b _ ⟨k, h, rfl, hrest, hk, rfl, F⟩
      have := congrArg List.length hrest
      simp at this
      omega
  · simp only [Bool.false_eq_true, if_false]
    refine wpAny_bind ?_
    have F0 : HS n0 ls i x0 f' s.heap 0 h₀ := by
      refine ⟨hs₀.1, fun c hc => hs₀.2 c (nn (by unfold Out at hc; omega)), hz₀, ?_, ⟨vs, hvl, ?_⟩, fun j l hj => ?_⟩
      · rw [hs₀.2 _ (nn (by omega))]; exact hTI
      · rw [hs₀.2 _ (nn (by omega))]; exact hTO
      · have hjl : j < ls.length := (List.getElem?_eq_some_iff.mp hj).1
        rw [if_neg (Nat.not_lt_zero _)]
        exact iter_of (hits j l hj) (hs₀.2 _ (nn (by omega)))
    rw [← Array.forIn_toList]
    refine wpAny_forIn_list _ (fun rest b s' => ∃ k h, b.1 = none ∧ rest = ((List.range ls.length).map fun j => Value.ref (n0 + j)).drop k ∧ k ≤ jm ∧ s' = { s with heap := h } ∧ HS n0 ls i x0 f' s.heap k h) _ ?_ ?_ _ _ ⟨0, h₀, rfl, by simp, Nat.zero_le _, rfl, F0⟩
    · rintro x rest b _ ⟨k, h, hb1, hrest, hk, rfl, F⟩
      obtain ⟨hx, hr⟩ := drop_cons hrest
      obtain ⟨hkl, rfl⟩ := it_at hx
      obtain ⟨l, hll⟩ : ∃ l, ls[k]? = some l := ⟨_, List.getElem?_eq_getElem hkl⟩
      obtain ⟨xs, hxs⟩ := hls k l hll
      have lo := low l (List.mem_of_getElem? hll)
      have hit := F.its k l hll
      rw [if_neg (Nat.lt_irrefl _)] at hit
      refine wpAny_bind (wpAny_holding ?_)
      show wpAny _ _ (Builtin.SmallTypes.nextOf (.ref (n0 + k)) >>= _) _ _ _
      cases hxi : xs[i]? with
      | none =>
        refine wpAny_bind (wpAny_nextOf_list_end hh hit (list_of hxs (F.out l (.inl lo))) hxi fun h₂ e hs₂ he => ?_)
        refine hE h₂ e (fun c hc o q => ?_) he
        have hc' := hc
        unfold Out at hc
        exact hs₂ _ _ (nn (by omega)) (by rw [F.out c hc']; exact q)
      | some u =>
        refine wpAny_bind (wpAny_nextOf_list_item hit (list_of hxs (F.out l (.inl lo))) hxi fun h₂ h2i hs₂ => wpAny_pure ?_)
        have hkj : k ≠ jm := by
          rintro rfl
          rw [hll] at hjm
          cases hjm
          rw [hnone xs hxs] at hxi
          cases hxi
        exact wpAny_pure ⟨k + 1, h₂, rfl, hr, by omega, rfl, F.step hkl hll h2i hs₂⟩
    · rintro b _ ⟨k, h, hb1, hrest, hk, rfl, F⟩
      have := congrArg List.length hrest
      simp at this
      omega
end
section
theorem typeCall_N (vs : List Value) : checkTypeCall "zip" ⟨vs, []⟩ = pure () := by kernel_rfl
theorem newCall_N : ∀ vs : List Value, 1 ≤ vs.length → checkBuiltinCall "zip.__new__" ⟨.type "zip" :: vs, []⟩ = pure ()
  | [a], _ => by kernel_rfl
  | a :: b :: r, _ => by kernel_rfl
theorem init_N (o : Value) : ∀ vs : List Value, 1 ≤ vs.length → argsOk "object.__init__" ⟨o :: vs, []⟩
  | [a], _ => by
    unfold argsOk; rw [signature?_of (id := "object.__init__") (n := ['_', '_', 't', 'i', 'n', 'i', '_', '_']) (o := ['t', 'c', 'e', 'j', 'b', 'o']) (by kernel_rfl) F.owner_object]; kernel_rfl
  | a :: b :: r, _ => by
    unfold argsOk; rw [signature?_of (id := "object.__init__") (n := ['_', '_', 't', 'i', 'n', 'i', '_', '_']) (o := ['t', 'c', 'e', 'j', 'b', 'o']) (by kernel_rfl) F.owner_object]; kernel_rfl
theorem zn468 {n : Nat} (h : n = 4 ∨ n = 6 ∨ n = 8) : 1 ≤ n ∧ n ≤ 1000000 := by omega
end
end Vz
namespace Vz
open PySem PySem.Spec PyProof.Rows L2
section
variable {prog : Program} {w : World} {A : Around} {E : Value → Shared → Prop} {s : Shared}
/-- the iterators of the lists, one after the other -/
theorem iterAll_lists (ls : List Addr) (hl : ∀ l ∈ ls, ∃ xs : Array Value, s.heap.IsList l xs) :
    wpAny (model prog w) A (Builtin.SmallTypes.iterAll (ls.map Value.ref)) (fun its s' => its = (List.range ls.length).map (fun j => Value.ref (s.heap.objs.size + j)) ∧ ∃ h1, s' = { s with heap := h1 } ∧ h1.objs.size = s.heap.objs.size + ls.length ∧
      (∀ c o, s.heap.get? c = some o → h1.get? c = some o) ∧ ∀ (j : Nat) (l : Addr), ls[j]? = some l → h1.IsListIter ((s.heap.objs.size + j : Nat)) l 0) (fun _ _ => False) s := by
  unfold Builtin.SmallTypes.iterAll
  refine wpAny_bind ?_
  refine wpAny_forIn_list _ (fun rest b s' => ∃ k h1, b = ((List.range k).map (fun j => Value.ref (s.heap.objs.size + j))).toArray ∧ rest = (ls.map Value.ref).drop k ∧ k ≤ ls.length ∧ s' = { s with heap := h1 } ∧ h1.objs.size = s.heap.objs.size + k ∧ (∀ c o, s.heap.get? c = some o → h1.get? c = some o) ∧ ∀ (j : Nat) (l : Addr), j < k → ls[j]? = some l → h1.IsListIter ((s.heap.objs.size + j : Nat)) l 0) _ ?_ ?_ _ _ ⟨0, s.heap, rfl, rfl, Nat.zero_le _, rfl, rfl, fun _ _ q => q, fun j l hj => absurd hj (Nat.not_lt_zero _)⟩
  · rintro x rest b _ ⟨k, h1, rfl, hrest, hk, rfl, hsz, hkp, hit⟩
    obtain ⟨hx, hr⟩ := drop_cons hrest
    rw [List.getElem?_map] at hx
    have hkl : k < ls.length := by
      by_cases q : k < ls.length
      · exact q
      · rw [List.getElem?_eq_none (by omega)] at hx; cases hx
    rw [List.getElem?_eq_getElem hkl] at hx
    obtain rfl : Value.ref ls[k] = x := by simpa using hx
    obtain ⟨xs, hxs⟩ := hl ls[k] (List.getElem_mem hkl)
    refine wpAny_bind (wpAny_holding ?_)
    refine wpAny_pyIter_list (s := { s with heap := h1 }) (hxs.at fun o q => hkp _ _ q) ?_
    refine wpAny_pure ⟨k + 1, _, ?_, hr, hkl, rfl, ?_, fun c o q => Heap.get?_push_of_some _ (hkp c o q), fun j l hj hjl => ?_⟩
    · rw [List.range_succ, List.map_append, hsz]
      simp
    · rw [Heap.size_push, hsz]; rfl
    · by_cases e : j = k
      · subst e
        rw [List.getElem?_eq_getElem hkl] at hjl
        cases hjl
        exact ⟨_, by rw [← hsz]; exact Heap.get?_push_size _ rfl, rfl, rfl⟩
      · exact (hit j l (by omega) hjl).at fun o q => Heap.get?_push_of_some _ q
  · rintro b _ ⟨k, h1, rfl, hrest, hk, rfl, hsz, hkp, hit⟩
    have hkn : k = ls.length := by
      have := congrArg List.length hrest
      simp at this
      omega
    subst hkn
    exact wpAny_pure ⟨by simp, h1, rfl, hsz, hkp, fun j l hj => hit j l (List.getElem?_eq_some_iff.mp hj).1 hj⟩
theorem zip_new_N (ls : List Addr) (hn : ls.length ≤ 1000000) : Meets (Builtin.«zip.__new__» ⟨.type "zip" :: ls.map Value.ref, []⟩) (fun _ R s => (∀ l ∈ ls, ∃ xs : Array Value, s.heap.IsList l xs) ∧
      ∀ h', ZS s.heap.objs.size ls 0 h' → (∀ c o, s.heap.get? c = some o → h'.get? c = some o) → R (.ok (.ret (.ref (s.heap.objs.size + ls.length + 2)))) { s with heap := h' }) :=
  .of_wp fun prog w A R s hh => by
    obtain ⟨hl, h⟩ := hh
    have hsub := sub_zip
    unfold Builtin.«zip.__new__»
    refine wpAny_bind ?_
    have hc : wpAny (model prog w) A.in1 (Builtin.SmallTypes.newClass "zip" ⟨.type "zip" :: ls.map Value.ref, []⟩) (fun r s' => r = (.type "zip", ls.map Value.ref) ∧ s' = s) (fun e s' => R (.error e) s') s := by
      unfold Builtin.SmallTypes.newClass
      repeat (any_goals (first | assumption | wp_step))
      exact ⟨rfl, rfl⟩
    refine wpAny_mono hc ?_ (fun _ _ z => z)
    rintro r s' ⟨rfl, rfl⟩
    show wpAny _ _ (Builtin.SmallTypes.iterAll (ls.map Value.ref) >>= fun its => newTuple its >>= fun t1 => newTuple (its.map fun _ => .none) >>= fun t2 => Builtin.SmallTypes.newRecord (.type "zip") (Builtin.SmallTypes.ownedTupleFields ++ [Value.bool false, t1, t2]) >>= fun r => ret r) _ _ _
    refine wpAny_bind ?_
    refine wpAny_mono (iterAll_lists ls hl) ?_ (fun _ _ z => z.elim)
    rintro its _ ⟨rfl, h1, rfl, hsz, hk, hit⟩
    refine wpAny_bind (wpAny_newTuple ?_ (by simp; unfold sizeLine; omega))
    refine wpAny_bind (wpAny_newTuple ?_ (by simp; unfold sizeLine; omega))
    refine wpAny_bind ?_
    unfold Builtin.SmallTypes.newRecord
    refine wpAny_newObj_type ?_ (by first | trivial | (simp only [sizeOk]; decide) | (simp [sizeOk]; decide))
    refine wpAny_pure ⟨_, rfl, ?_⟩
    generalize pA : h1.push { cls := .type "tuple", data := .seq ((List.range ls.length).map fun j => Value.ref (s'.heap.objs.size + j)).toArray } = hA
    have eA : hA.objs.size = s'.heap.objs.size + ls.length + 1 := by rw [← pA, Heap.size_push, hsz]
    have gA : hA.get? (s'.heap.objs.size + ls.length) = some { cls := .type "tuple", data := .seq ((List.range ls.length).map fun j => Value.ref (s'.heap.objs.size + j)).toArray } := by
      rw [← pA, ← hsz]; exact Heap.get?_push_size _ rfl
    have kA : ∀ c o, h1.get? c = some o → hA.get? c = some o := fun c o q => by rw [← pA]; exact Heap.get?_push_of_some _ q
    simp only [hsz, eA]
    generalize pB : hA.push { cls := .type "tuple", data := .seq (((List.range ls.length).map fun j => Value.ref (s'.heap.objs.size + j)).map fun _ => Value.none).toArray } = hB
    have eB : hB.objs.size = s'.heap.objs.size + ls.length + 2 := by rw [← pB, Heap.size_push, eA]
    have gB : hB.get? (s'.heap.objs.size + ls.length + 1) = some { cls := .type "tuple", data := .seq (((List.range ls.length).map fun j => Value.ref (s'.heap.objs.size + j)).map fun _ => Value.none).toArray } := by
      rw [← pB, ← eA]; exact Heap.get?_push_size _ rfl
    have kB : ∀ c o, hA.get? c = some o → hB.get? c = some o := fun c o q => by rw [← pB]; exact Heap.get?_push_of_some _ q
    simp only [eB]
    generalize pC : hB.push _ = hC
    have gC : hC.get? (s'.heap.objs.size + ls.length + 2) = some { cls := .type "zip", dict := none, data := .fields #[.none, .bool false, .bool false, .ref (s'.heap.objs.size + ls.length), .ref (s'.heap.objs.size + ls.length + 1)], slots := #[] } := by rw [← pC, ← eB]; exact Heap.get?_push_size _ rfl
    have kC : ∀ c o, hB.get? c = some o → hC.get? c = some o := fun c o q => by rw [← pC]; exact Heap.get?_push_of_some _ q
    refine h hC ⟨⟨.none, false, .inl rfl, gC⟩, kC _ _ (kB _ _ gA), ⟨_, by simp, kC _ _ gB⟩, fun j l hj => (hit j l hj).at fun o q => kC _ _ (kB _ _ (kA _ _ q))⟩ fun c o q => kC _ _ (kB _ _ (kA _ _ (hk c o q)))
theorem call_zipN {ls : List Addr} {Q : Value → Shared → Prop} (hn : 1 ≤ ls.length ∧ ls.length ≤ 1000000) (hl : ∀ l ∈ ls, ∃ xs : Array Value, s.heap.IsList l xs)
    (h : ∀ h', ZS s.heap.objs.size ls 0 h' → (∀ c o, s.heap.get? c = some o → h'.get? c = some o) → Q (.ref (s.heap.objs.size + ls.length + 2)) { s with heap := h' }) :
    wpAny (model prog w) A (call (.type "zip") (ls.map Value.ref)) Q E s := by
  have hct : checkTypeCall "zip" ⟨ls.map Value.ref, []⟩ = pure () := typeCall_N _
  have hcn : checkBuiltinCall "zip.__new__" ⟨.type "zip" :: ls.map Value.ref, []⟩ = pure () := newCall_N _ (by simpa using hn.1)
  have hin : ∀ obj, argsOk "object.__init__" ⟨obj :: ls.map Value.ref, []⟩ := fun obj => init_N _ _ (by simpa using hn.1)
  refine callType_newIn F.called_zip (by decide) hct hcn hin F.entry_zip_new ((zip_new_N ls (by omega)).inModel prog w) ⟨hl, fun h' hz hk => ?_⟩
  exact ⟨by obtain ⟨x0, f, _, q⟩ := hz.z; exact ⟨_, q, rfl⟩, h h' hz hk⟩
theorem pyNext_item {n0 : Nat} {ls : List Addr} {us : List Value} {i : Nat} {Q : Option Value → Shared → Prop} (hne : ls ≠ []) (hsz : ls.length ≤ 1000000) (st : ZS n0 ls i s.heap) (hl : us.length = ls.length) (low : ∀ l ∈ ls, (l : Nat) < n0)
    (hi : Has s.heap ls i us)
    (hQ : ∀ h', ZS n0 ls (i + 1) h' → h'.get? s.heap.objs.size = some { cls := .type "tuple", data := .seq us.toArray } → h'.objs.size = s.heap.objs.size + 1 →
      (∀ c : Nat, Out n0 ls.length c → ∀ o, s.heap.get? c = some o → h'.get? c = some o) → Q (some (.ref s.heap.objs.size)) { s with heap := h' }) :
    wpAny (model prog w) A (pyNext (.ref (n0 + ls.length + 2))) Q E s := by
  have hT : s.TypeIs (.ref (n0 + ls.length + 2)) "zip" := by obtain ⟨x0, f, _, q⟩ := st.z; exact ⟨_, q, rfl⟩
  unfold pyNext
  exact wpAny_bind (wpAny_attempt (wpAny_callSpecial?_slot (name := Str.ofString "__next__") hT F.slot_zip_next
    (wpAny_call_entry F.slot_zip_next hT F.entry_zip_next
      (next_item hne hsz st hl low hi fun h' a1 a2 a3 a4 => wpAny_pure (hQ h' a1 a2 a3 a4)) (F.args_zip_next_1 _))))
theorem pyNext_end {n0 : Nat} {ls : List Addr} {i : Nat} {Q : Option Value → Shared → Prop} (hh : A.handled = none) (hsz : ls.length ≤ 1000000) (st : ZS n0 ls i s.heap) (low : ∀ l ∈ ls, (l : Nat) < n0)
    (hls : ∀ (j : Nat) (l : Addr), ls[j]? = some l → ∃ xs : Array Value, s.heap.IsList l xs) (hend : ∃ (j : Nat) (l : Addr), ls[j]? = some l ∧ ∀ xs : Array Value, s.heap.IsList l xs → xs[i]? = none)
    (hQ : ∀ h', (∀ c : Nat, Out n0 ls.length c → ∀ o, s.heap.get? c = some o → h'.get? c = some o) → Q none { s with heap := h' }) :
    wpAny (model prog w) A (pyNext (.ref (n0 + ls.length + 2))) Q E s := by
  have hT : s.TypeIs (.ref (n0 + ls.length + 2)) "zip" := by obtain ⟨x0, f, _, q⟩ := st.z; exact ⟨_, q, rfl⟩
  unfold pyNext
  refine wpAny_bind (wpAny_attempt (wpAny_callSpecial?_slot (name := Str.ofString "__next__") hT F.slot_zip_next
    (wpAny_call_entry F.slot_zip_next hT F.entry_zip_next (next_end hh hsz st low hls hend fun h' e hk he => ?_) (F.args_zip_next_1 _))))
  obtain ⟨o, ho, hc⟩ := he
  refine wpAny_bind (wpAny_isInstance (T := "StopIteration") (b := true) ⟨o, ho, hc⟩ isSubtype_stop ?_)
  exact wpAny_pure (hQ _ hk)
/-- the step ahead of the store: the zip stays one -/
theorem go_zip {n0 : Nat} {ls : List Addr} {i : Nat} {tg : Expr} {T : Addr} {Q : Unit → Shared → Prop} (st : ZS n0 ls i s.heap) (hQ : ∀ h', ZS n0 ls i h' → Heap.SameBut (n0 + ls.length + 2) s.heap h' → Q () { s with heap := h' }) :
    wpAny (model prog w) A (letOwnedTupleGo tg (.ref (n0 + ls.length + 2)) (.ref T)) Q E s := by
  have same : Q () s := hQ s.heap st (Heap.SameBut.refl _ _)
  obtain ⟨⟨x0, f, hx0, hz⟩, hTI, hTO, hits⟩ := st
  unfold letOwnedTupleGo
  cases tg <;> first
    | exact wpAny_pure same
    | (refine wpAny_bind (wpAny_load hz ?_)
       show wpAny _ _ (if (["enumerate", "zip", "dict_itemiterator", "dict_reverseitemiterator", "odict_iterator", "itertools.zip_longest", "itertools.pairwise"].contains "zip" &&
         (#[x0, .bool f, .bool false, .ref (n0 + ls.length), .ref (n0 + ls.length + 1)] : Array Value)[0]? == some (rawInt T)) = true then _ else _) Q E s
       split
       · refine wpAny_bind (wpAny_rule ?_)
         show wpAny _ _ (setField (.ref (n0 + ls.length + 2)) 0 .none) Q E s
         refine wpAny_setField_rec hz (by simp) fun h' hz' hs' => hQ h' ⟨⟨.none, f, .inl rfl, hz'⟩, ?_, ?_, fun j l hj => ?_⟩ hs'
         · rw [hs'.2 _ (nn (by omega))]; exact hTI
         · obtain ⟨vs, hvl, hTO⟩ := hTO
           exact ⟨vs, hvl, by rw [hs'.2 _ (nn (by omega))]; exact hTO⟩
         · have hjl : j < ls.length := (List.getElem?_eq_some_iff.mp hj).1
           exact iter_of (hits j l hj) (hs'.2 _ (nn (by omega)))
       · exact wpAny_pure same)
end
/-! ### the turn -/
/-- the lists at ls as they stand at each turn, their items in a new tuple -/
def ItzN (K : PySem.W.Frag) (ls : List Addr) : It :=
  ⟨fun i H => ls ≠ [] ∧ ∃ us : List V, us.length = ls.length ∧ ∀ (j : Nat) (l : Addr) (u : V), ls[j]? = some l → us[j]? = some u → ∃ xs : List V, SqL K H l xs ∧ xs[i]? = some u,
    fun i H v H' => ∃ T us, v = .ref T ∧ H T = none ∧ H' = upd H T (.tup us) ∧ us.length = ls.length ∧ ∀ (j : Nat) (l : Addr), ls[j]? = some l → ∀ xs, SqL K H l xs → xs[i]? = us[j]?,
    fun i H => (∀ l ∈ ls, ∃ xs : List V, SqL K H l xs) ∧ ∃ l ∈ ls, ∃ xs : List V, SqL K H l xs ∧ xs.length ≤ i⟩
theorem has_vals {X : Cx} {pins : List (Addr × Obj)} {σ : L2.St} {H : Hp} {s : Shared} {i : Nat} (I : Inv X pins σ H s) : ∀ (ls : List Addr) (us : List V), us.length = ls.length → (∀ (j : Nat) (l : Addr) (u : V), ls[j]? = some l → us[j]? = some u → ∃ xs : List V, SqL X.K H l xs ∧ xs[i]? = some u) →
    ∃ ws : List Value, Vals us ws ∧ Has s.heap ls i ws
  | [], [], _, _ => ⟨[], .nil, fun j l u h => by simp at h⟩
  | [], u :: us, h, _ => by simp at h
  | l :: ls, [], h, _ => by simp at h
  | l :: ls, u :: us, hl, h => by
    obtain ⟨ws, hv, hh⟩ := has_vals I ls us (by simpa using hl) fun j l' u' h1 h2 => h (j + 1) l' u' (by simpa using h1) (by simpa using h2)
    obtain ⟨xs, q, hx⟩ := h 0 l u rfl rfl
    obtain ⟨its, rv, p, _⟩ := I.list q
    obtain ⟨w1, hw, rw1⟩ := rv.get hx
    refine ⟨w1 :: ws, .cons rw1 hv, fun j l' u' h1 h2 => ?_⟩
    cases j with
    | zero =>
      simp at h1 h2
      subst h1 h2
      exact ⟨_, p.isList, by simpa using hw⟩
    | succ j => exact hh j l' u' (by simpa using h1) (by simpa using h2)
def fpN (n0 n : Nat) : List Addr := (List.range (n + 3)).map (n0 + ·)
theorem mem_fpN {n0 n c : Nat} : c ∈ fpN n0 n ↔ ¬ Out n0 n c := by
  unfold fpN Out
  simp only [List.mem_map, List.mem_range]
  constructor
  · rintro ⟨j, hj, rfl⟩; omega
  · intro h; exact ⟨c - n0, by omega, by omega⟩
theorem turn_zipN {P : Program} {w : World} {K : PySem.W.Frag} {tg : Expr} {n0 : Nat} {ls : List Addr} (hsz : ls.length ≤ 1000000) (low : ∀ l ∈ ls, (l : Nat) < n0) :
    Turn P w K tg (ItzN K ls) (fpN n0 ls.length) (n0 + ls.length + 2 : Nat) (fun i h => ZS n0 ls i h) where
  mem := mem_fpN.mpr (by unfold Out; omega)
  obj := fun i h st c0 hc => by
    obtain ⟨c, rfl⟩ : ∃ c : Nat, c = c0 := ⟨c0, rfl⟩
    have hc := mem_fpN.mp hc
    obtain ⟨⟨x0, f, hx0, hz⟩, hTI, ⟨vs, hvl, hTO⟩, hits⟩ := st
    have h4 : (c : Nat) = n0 + ls.length + 2 ∨ (c : Nat) = n0 + ls.length ∨ (c : Nat) = n0 + ls.length + 1 ∨ ∃ j, j < ls.length ∧ (c : Nat) = n0 + j := by
      unfold Out at hc
      by_cases h1 : (c : Nat) < n0 + ls.length
      · exact .inr (.inr (.inr ⟨(c : Nat) - n0, by omega, by omega⟩))
      · omega
    rcases h4 with rfl | rfl | rfl | ⟨j, hj, rfl⟩
    · exact ⟨_, hz, fun v q => nomatch q⟩
    · exact ⟨_, hTI, fun v q => nomatch q⟩
    · exact ⟨_, hTO, fun v q => nomatch q⟩
    · obtain ⟨o1, e1, _, d1⟩ := hits j ls[j] (List.getElem?_eq_getElem hj)
      exact ⟨o1, e1, fun v q => by rw [d1] at q; cases q⟩
  keep := fun i h h' st k => by
    obtain ⟨⟨x0, f, hx0, hz⟩, hTI, ⟨vs, hvl, hTO⟩, hits⟩ := st
    refine ⟨⟨x0, f, hx0, k _ (mem_fpN.mpr (by unfold Out; omega)) _ hz⟩, k _ (mem_fpN.mpr (by unfold Out; omega)) _ hTI, ⟨vs, hvl, k _ (mem_fpN.mpr (by unfold Out; omega)) _ hTO⟩, fun j l hj => ?_⟩
    have hjl : j < ls.length := (List.getElem?_eq_some_iff.mp hj).1
    exact (hits j l hj).at fun o q => k _ (mem_fpN.mpr (by unfold Out; omega)) o q
  item := by
    intro X hP hw hK hc i pins s σ H E I hf st hg
    subst hP hw hK
    obtain ⟨hne, us, hul, hus⟩ := hg
    obtain ⟨ws, rws, has⟩ := has_vals I ls us hul hus
    have hwl : ws.length = ls.length := by rw [← rws.length]; exact hul
    have hb : s.heap.objs.size > n0 + ls.length + 2 := by obtain ⟨x0, f, _, q⟩ := st.z; exact Heap.lt_size q
    refine pyNext_item hne hsz st hwl low has fun h' st' hT hsz' hk => ?_
    refine ⟨_, rfl, go_zip (s := { s with heap := h' }) st' fun h'' st'' sb => ?_⟩
    have hT2 : h''.get? s.heap.objs.size = some { cls := .type "tuple", data := .seq ws.toArray } := (sb.2 _ (nn (by omega))).trans hT
    have new : ObjOk X.prog X.w (upd H s.heap.objs.size (.tup us)) h'' s.heap.objs.size (.tup us) :=
      ⟨by rw [hul]; unfold sizeLine; omega, ws, rws, ⟨_, hT2, rfl, _, rfl⟩⟩
    have I1 : Inv X pins σ (upd H s.heap.objs.size (.tup us)) { s with heap := h'' } :=
      I.turnedNew (t' := s.toks) (ch := fpN n0 ls.length) (fun c0 o hb' q => by
        obtain ⟨c, rfl⟩ : ∃ c : Nat, c = c0 := ⟨c0, rfl⟩
        have hc' : Out n0 ls.length c := Classical.byContradiction fun z => hb' (mem_fpN.mpr z)
        have hc2 := hc'
        unfold Out at hc2
        exact (sb.2 c (nn (by omega))).trans (hk c hc' o q)) hf (Nat.le_refl _) new
    refine ⟨.ref s.heap.objs.size, _, I1, rfl, ⟨_, us, rfl, I.hok.fresh (Nat.le_refl _), rfl, hul, fun j l hj xs hq => ?_⟩, st'', fun c0 hcm => ?_⟩
    · have hjl : j < ls.length := (List.getElem?_eq_some_iff.mp hj).1
      obtain ⟨u, hu⟩ : ∃ u, us[j]? = some u := ⟨_, List.getElem?_eq_getElem (by omega)⟩
      obtain ⟨ys, q', hy⟩ := hus j l u hj hu
      rw [I.list_inj hq q', hy, hu]
    · obtain ⟨c, rfl⟩ : ∃ c : Nat, c = c0 := ⟨c0, rfl⟩
      have hc := mem_fpN.mp hcm
      have hlt : (c : Nat) < s.heap.objs.size := by unfold Out at hc; omega
      rw [upd_ne (Nat.ne_of_lt hlt)]
      exact (hf c hcm).1
  done := by
    intro X hP hw hK hc i pins s σ H E I hf st hg
    subst hP hw hK
    obtain ⟨hall, l0, hl0, xs0, q0, hle⟩ := hg
    refine pyNext_end (I.ok.hd hc) hsz st low (fun j l hj => ?_) ?_ fun h' hk => ⟨rfl, I.turnedL (t' := s.toks) (ch := fpN n0 ls.length) (fun c o hb' q => hk c (Classical.byContradiction fun z => hb' (mem_fpN.mpr z)) o q) hf⟩
    · obtain ⟨xs, q⟩ := hall l (List.mem_of_getElem? hj)
      obtain ⟨its, rv, p, _⟩ := I.list q
      exact ⟨_, p.isList⟩
    · obtain ⟨j, hj⟩ := List.getElem?_of_mem hl0
      refine ⟨j, l0, hj, fun xs hxs => ?_⟩
      obtain ⟨its, rv, p, _⟩ := I.list q0
      have l1 := rv.length
      have e : xs = its.toArray := by
        obtain ⟨o1, h1, c1, n1, d1⟩ := hxs
        obtain ⟨o2, h2, c2, n2, d2⟩ := p.isList
        rw [h1] at h2
        cases h2
        rw [d1] at d2
        cases d2
        rfl
      subst e
      simp
      omega
  self := fun A i s Q E st h => by
    obtain ⟨x0, f, _, q⟩ := st.z
    have hT : s.TypeIs (.ref (n0 + ls.length + 2 : Nat)) "zip" := ⟨_, q, rfl⟩
    refine wpAny_pyIter_slot hT F.slot_zip_iter (wpAny_call_entry F.slot_zip_iter hT F.entry_zip_iter ?_ (F.args_zip_iter_1 _))
    show wpAny _ _ (ret (.ref _)) _ _ s
    exact wpAny_pure ⟨_, rfl, "zip", _, hT, F.slot_zip_next.lookup, h⟩
theorem callWith_typeS {M : Model} {A : Around} {E : Value → Shared → Prop} {s : Shared} {pos p : Pos} {T : String} {env : Env} {e : Expr} {Q : Value → Shared → Prop}
    (h : wpAny M A (eval e env) (fun v s₁ => PySem.W.StarOf M A E v (fun vs s₂ => wpAny M A (call (.type T) vs) Q E s₂) s₁) E s) (he : starEach [.Starred e p] env = [(true, eval e env)] := by rfl) :
    wpAny M A (callWith pos (.type T) [] (backTo pos (starEach [.Starred e p] env)) []) Q E s := by
  rw [he]
  have h2 := PySem.W.ks_lone (f := .type T) (pos := pos) (Q := fun a s₂ => wpAny M A (call (.type T) a.pos a.kw) Q E s₂) h
  unfold callWith
  refine wpAny_bind (wpAny_holding (wpAny_mono h2 (fun a s₁ h₁ => wpAny_bind (wpAny_standAt ?_)) fun _ _ x => x))
  refine wpAny_bind (wpAny_pure ?_)
  refine wpAny_bind ?_
  refine wpAny_mono (PySem.wpAny_operating h₁) (fun r s₂ hr => wpAny_bind (wpAny_holding (wpAny_point (wpAny_pure hr)))) fun _ _ x => x
def iZipN (K : PySem.W.Frag) (te : TE) : TI := fun σ H R => te σ H fun v H1 => ∃ (a : Addr) (ls : List Addr), v = V.ref a ∧ SqL K H1 a (ls.map V.ref) ∧ (1 ≤ ls.length ∧ ls.length ≤ 1000000) ∧ (∀ l ∈ ls, ∃ xs : List V, SqL K H1 l xs) ∧ R (ItzN K ls) H1
theorem vals_refs : ∀ {ls : List Addr} {us : List Value}, Vals (ls.map V.ref) us → us = ls.map Value.ref
  | [], _, h => by cases h; rfl
  | l :: ls, _, h => by
    cases h with
    | cons a r => rw [vals_refs r]; cases a; rfl
theorem pi_zipN {X : Cx} {K : PySem.W.Frag} {e tg : Expr} {te : TE} {p sp_ pos : Pos} (hg : Gl X "zip") (hm : X.mg "zip" = none) (he : PE X e te) (hK : X.K = K := by rfl) (hst : starEach [.Starred e sp_] X.env = [(true, eval e X.env)] := by rfl) :
    PI X tg (.Call (.Name "zip" p) [.Starred e sp_] [] pos) (iZipN K te) := by
  subst hK
  refine ⟨fun pins s σ H R I h => ?_⟩
  refine Call_ (ld_blt I hg hm PyProof.Rows.boot_zip (callWith_typeS (thn (he.run pins s σ H _ I h) fun v s1 ⟨y, H1, I1, ry, a, ls, ey, hx, hn, hls, q⟩ => ?_) hst))
  subst ey
  obtain rfl : v = Value.ref a := ry
  refine StX.star_any I1 (.inr hx) fun us s2 I2 rv => ?_
  obtain rfl := vals_refs rv
  have hlists : ∀ l ∈ ls, ∃ xs : Array Value, s2.heap.IsList l xs := fun l hl => by
    obtain ⟨xs, q⟩ := hls l hl
    obtain ⟨its, rv, pl, _⟩ := I2.list q
    exact ⟨_, pl.isList⟩
  have hlow : ∀ l ∈ ls, (l : Nat) < s2.heap.objs.size := fun l hl => by
    obtain ⟨xs, q⟩ := hls l hl
    obtain ⟨its, rv, pl, _⟩ := I2.list q
    exact pl.lt
  refine call_zipN hn hlists fun h' hz hk => ?_
  have I3 : Inv X pins σ H1 { s2 with heap := h' } := I2.kept (t' := s2.toks) hk
  have T := turn_zipN (P := X.prog) (w := X.w) (K := X.K) (tg := tg) (n0 := s2.heap.objs.size) (ls := ls) (by omega) hlow
  refine T.self X.A 0 { s2 with heap := h' } _ _ hz ?_
  refine ⟨_, _, _, _, H1, rfl, I3, T, hz, fun b hb => ?_, q⟩
  have hc := mem_fpN.mp hb
  have hle : s2.heap.objs.size ≤ b := by
    obtain ⟨c, rfl⟩ : ∃ c : Nat, c = b := ⟨b, rfl⟩
    unfold Out at hc
    omega
  exact I2.fpOk hle (I2.hok.fresh hle)
end Vz
namespace Vx
open PySem PySem.Spec PyProof.Rows L2
/-- the length of the shortest row -/
def minLen : List (List Int) → Nat
  | [] => 0
  | [x] => x.length
  | x :: r => min x.length (minLen r)
def colOf (xss : List (List Int)) (i : Nat) : List Int := xss.map fun r => itD r (i : Int)
/-- zip(*rows) -/
def zipRows (xss : List (List Int)) : List (List Int) := (List.range (minLen xss)).map (colOf xss)
theorem minLen_le : ∀ {xss : List (List Int)} {xs : List Int}, xs ∈ xss → minLen xss ≤ xs.length
  | [x], xs, h => by
    simp at h
    subst h
    exact Nat.le_refl _
  | x :: y :: r, xs, h => by
    rcases List.mem_cons.mp h with rfl | h
    · exact Nat.min_le_left _ _
    · exact Nat.le_trans (Nat.min_le_right _ _) (minLen_le h)
theorem minLen_at : ∀ {xss : List (List Int)}, xss ≠ [] → ∃ xs ∈ xss, xs.length = minLen xss
  | [x], _ => ⟨x, List.mem_cons_self, rfl⟩
  | x :: y :: r, _ => by
    obtain ⟨z, hz, e⟩ := minLen_at (xss := y :: r) (by simp)
    by_cases h : x.length ≤ minLen (y :: r)
    · exact ⟨x, List.mem_cons_self, by show _ = min _ _; omega⟩
    · exact ⟨z, List.mem_cons_of_mem _ hz, by show _ = min _ _; omega⟩
theorem zipRows_len (xss : List (List Int)) : (zipRows xss).length = minLen xss := by simp [zipRows]
theorem zipRows_get {xss : List (List Int)} {i : Nat} (h : i < minLen xss) : (zipRows xss)[i]? = some (colOf xss i) := by
  simp [zipRows, List.getElem?_range h]
/-- the rows stand at ls -/
def RowsAt (K : PySem.W.Frag) (H : Hp) (ls : List Addr) (xss : List (List Int)) : Prop :=
  ls.length = xss.length ∧ ∀ (j : Nat) (l : Addr) (xs : List Int), ls[j]? = some l → xss[j]? = some xs → SqL K H l (xs.map V.int)
theorem RowsAt.all {K : PySem.W.Frag} {H : Hp} {ls : List Addr} {xss : List (List Int)} (r : RowsAt K H ls xss) : ∀ l ∈ ls, ∃ xs : List V, SqL K H l xs := fun l hl => by
  obtain ⟨j, hj⟩ := List.getElem?_of_mem hl
  have hjl : j < ls.length := (List.getElem?_eq_some_iff.mp hj).1
  have hjx : j < xss.length := by rw [← r.1]; exact hjl
  exact ⟨_, r.2 j l xss[j] hj (List.getElem?_eq_getElem hjx)⟩
theorem walk_zipN {K : PySem.W.Frag} {ls : List Addr} {xss : List (List Int)} (hne : xss ≠ []) :
    Walk (Vz.ItzN K ls) (minLen xss) (fun H => RowsAt K H ls xss) (fun i H v H' => ∃ T, v = .ref T ∧ H T = none ∧ H' = upd H T (.tup ((colOf xss i).map V.int))) := by
  refine ⟨fun i H hi q => ?_, fun H q => ?_, fun i H x H' hi q y => ?_⟩
  · have hl : ls ≠ [] := fun z => hne (by have := q.1; rw [z] at this; exact List.length_eq_zero_iff.mp this.symm)
    refine ⟨hl, (colOf xss i).map V.int, by simp [colOf, q.1], fun j l u h1 h2 => ?_⟩
    have hj : j < xss.length := by rw [← q.1]; exact (List.getElem?_eq_some_iff.mp h1).1
    have hx : xss[j]? = some xss[j] := List.getElem?_eq_getElem hj
    refine ⟨_, q.2 j l _ h1 hx, ?_⟩
    have hlt : i < xss[j].length := Nat.lt_of_lt_of_le hi (minLen_le (List.getElem_mem hj))
    rw [List.getElem?_map] at h2
    unfold colOf at h2
    rw [List.getElem?_map, hx] at h2
    rw [List.getElem?_map]
    simp at h2
    rw [List.getElem?_eq_getElem hlt, ← h2]
    have : itD xss[j] (i : Int) = xss[j][i] := by
      unfold itD
      rw [atI_nat (List.getElem?_eq_getElem hlt)]
      rfl
    simp [this]
  · refine ⟨q.all, ?_⟩
    obtain ⟨xs, hm, e⟩ := minLen_at hne
    obtain ⟨j, hj⟩ := List.getElem?_of_mem hm
    have hjl : j < ls.length := by rw [q.1]; exact (List.getElem?_eq_some_iff.mp hj).1
    exact ⟨ls[j], List.getElem_mem hjl, _, q.2 j _ xs (List.getElem?_eq_getElem hjl) hj, by simp [e]⟩
  · obtain ⟨T, us, rfl, hT, rfl, hul, hus⟩ := y
    refine ⟨T, rfl, hT, ?_⟩
    congr 2
    apply List.ext_getElem?
    intro j
    by_cases hj : j < xss.length
    · have hjl : j < ls.length := by rw [q.1]; exact hj
      have := hus j ls[j] (List.getElem?_eq_getElem hjl) _ (q.2 j _ xss[j] (List.getElem?_eq_getElem hjl) (List.getElem?_eq_getElem hj))
      rw [← this]
      have hlt : i < xss[j].length := Nat.lt_of_lt_of_le hi (minLen_le (List.getElem_mem hj))
      have hh : itD xss[j] (i : Int) = xss[j][i] := by
        unfold itD
        rw [atI_nat (List.getElem?_eq_getElem hlt)]
        rfl
      unfold colOf
      rw [List.getElem?_map, List.getElem?_eq_getElem hlt, List.getElem?_map, List.getElem?_map, List.getElem?_eq_getElem hj]
      simp [hh]
    · rw [List.getElem?_eq_none (by rw [hul, q.1]; omega), List.getElem?_eq_none (by simp [colOf]; omega)]
/-- rows of data that stays -/
theorem rows_rp {K : PySem.W.Frag} {G H : Hp} (e : Same G H) : ∀ {vs : List V} {xss : List (List Int)}, RpAll G vs (xss.map (encL PyData.int)) → ∃ ls, vs = ls.map V.ref ∧ RowsAt K H ls xss
  | _, [], h => by cases h; exact ⟨[], rfl, rfl, fun j l xs h1 _ => by simp at h1⟩
  | _, xs :: r, h => by
    cases h with
    | cons r1 rr =>
      obtain ⟨ls, rfl, h1, h2⟩ := rows_rp (K := K) e rr
      obtain ⟨a, rfl, ha⟩ := rp_ints r1
      refine ⟨a :: ls, rfl, by simp [h1], fun j l ys q1 q2 => ?_⟩
      cases j with
      | zero =>
        simp at q1 q2
        subst q1 q2
        exact SqL.of (e _ _ ha)
      | succ j => exact h2 j l ys (by simpa using q1) (by simpa using q2)
/-- rows of a tree of one's own -/
theorem rows_ow {K : PySem.W.Frag} {G H : Hp} {L : List Addr} {vs : List V} {xss : List (List Int)} (e : Same G H) (w : OwAll G H L vs (xss.map (oL oI))) : ∃ ls, vs = ls.map V.ref ∧ RowsAt K H ls xss :=
  rows_rp (Same.refl H) (w.rpA (encO_L encO_I) e)
/-- the same rows later -/
theorem RowsAt.again {K : PySem.W.Frag} {H : Hp} {ls : List Addr} {xss : List (List Int)} {vs : List V} (h1 : vs = ls.map V.ref) (h2 : ∃ ls', vs = ls'.map V.ref ∧ RowsAt K H ls' xss) : RowsAt K H ls xss := by
  obtain ⟨ls', e, r⟩ := h2
  have : ls' = ls := by
    have q := h1.symm.trans e
    have inj : ∀ {a b : List Addr}, a.map V.ref = b.map V.ref → a = b := by
      intro a
      induction a with
      | nil => intro b h; cases b with | nil => rfl | cons _ _ => cases h
      | cons x r ih => intro b h; cases b with | nil => cases h | cons y s => simp at h; rw [h.1, ih (by simpa using h.2)]
    exact (inj q).symm
  rw [this] at r
  exact r
/-- a comprehension over zip(*rows) -/
theorem lc_zipN {K : PySem.W.Frag} {ls : List Addr} {xss : List (List Int)} {g : TG} {tt : TT} {te : TE} {vs : List Nat} {σ : L2.St} {H1 : Hp} {D : Addr} {Qd : Hp → Prop} (hne : xss ≠ []) (Pv : Nat → Hp → Prop) (h0 : Pv 0 (upd H1 D (.lst []))) (hq : ∀ i H, i ≤ minLen xss → Pv i H → RowsAt K H ls xss)
    (hs : ∀ (i : Nat) (T : Addr) (H : Hp), i < minLen xss → H T = none → Pv i H → g (.ref T) (wipe σ vs) (upd H T (.tup ((colOf xss i).map V.int))) fun σ2 H2 => wipe σ2 vs = wipe σ vs ∧ tt σ2 H2 fun b H3 =>
      if b = true then te σ2 H3 fun y H4 => ∃ acc, H4 D = some (.lst acc) ∧ acc.length < sizeLine ∧ Pv (i + 1) (upd H4 D (.lst (acc ++ [y]))) else Pv (i + 1) H3) (hd : ∀ H, Pv (minLen xss) H → Qd H) :
    ∃ W : Nat → Nat → Hp → Prop, (∃ m, W 0 m (upd H1 D (.lst []))) ∧ ∀ i m H, W i m H →
      ((Vz.ItzN K ls).stop i H ∧ Qd H) ∨ ((Vz.ItzN K ls).go i H ∧ ∃ Nx : Hp → Prop, (∀ H', Nx H' → ∃ m', m' < m ∧ W (i + 1) m' H') ∧ ∀ x H', (Vz.ItzN K ls).yld i H x H' → g x (wipe σ vs) H' fun σ2 H2 => wipe σ2 vs = wipe σ vs ∧ tt σ2 H2 fun b H3 =>
        if b = true then te σ2 H3 fun y H4 => ∃ acc, H4 D = some (.lst acc) ∧ acc.length < sizeLine ∧ Nx (upd H4 D (.lst (acc ++ [y]))) else Nx H3) := by
  refine lc_it (walk_zipN hne) Pv h0 hq (fun i x H H' hi p y => ?_) hd
  obtain ⟨T, rfl, hT, rfl⟩ := y
  exact hs i T H hi hT p
end Vx
/-! # lists stored into trees -/
namespace Vx
open PySem PySem.Spec PyProof.Rows L2
section
variable {G H I : Hp} {α : Type} {f : α → Dt} {L : List Addr} {vs : List V} {xs : List α}
theorem OwAll.set {L1 : List Addr} {v : V} {d : Dt} (h : Ow G H L1 v d) : ∀ {L : List Addr} {vs : List V} {ds : List Dt} (i : Nat), i < ds.length → OwAll G H L vs ds → (∀ b ∈ L1, b ∉ L) → ∃ L', (∀ b ∈ L', b ∈ L ++ L1) ∧ OwAll G H L' (vs.set i v) (ds.set i d)
  | _, _, _, _, hi, .nil, _ => absurd hi (Nat.not_lt_zero _)
  | _, _, _, 0, _, .cons (L1 := La) (L2 := Lb) a r n, nf => by
    refine ⟨L1 ++ Lb, fun b hb => ?_, .cons h r fun b hb q => nf b hb (List.mem_append_right _ q)⟩
    rcases List.mem_append.mp hb with q | q
    · exact List.mem_append_right _ q
    · exact List.mem_append_left _ (List.mem_append_right _ q)
  | _, _, _, i + 1, hi, .cons (L1 := La) (L2 := Lb) a r n, nf => by
    obtain ⟨L', s, w⟩ := OwAll.set h i (Nat.lt_of_succ_lt_succ hi) r fun b hb q => nf b hb (List.mem_append_right _ q)
    refine ⟨La ++ L', fun b hb => ?_, .cons a w fun b hb q => ?_⟩
    · rcases List.mem_append.mp hb with q | q
      · exact List.mem_append_left _ (List.mem_append_left _ q)
      · rcases List.mem_append.mp (s b q) with z | z
        · exact List.mem_append_left _ (List.mem_append_right _ z)
        · exact List.mem_append_right _ z
    · rcases List.mem_append.mp (s b q) with z | z
      · exact n b hb z
      · exact nf b z (List.mem_append_left _ hb)
theorem ixN_len {k : Int} (e : vs.length = xs.length) (h : -(xs.length : Int) ≤ k ∧ k < xs.length) : ixN vs.length k = some ((ixN vs.length k).getD 0) := by
  rw [e]
  obtain ⟨j, hj, _⟩ := ixN_some h
  rw [hj]
  rfl
theorem OwAll.setM {k : Int} {L1 : List Addr} {v : V} {y : α} (w : OwAll G H L vs (xs.map f)) (h : -(xs.length : Int) ≤ k ∧ k < xs.length) (ow : Ow G H L1 v (f y)) (n : ∀ b ∈ L1, b ∉ L) :
    ∃ L', (∀ b ∈ L', b ∈ L ++ L1) ∧ OwAll G H L' (vs.set ((ixN vs.length k).getD 0) v) ((setL xs k y).map f) := by
  obtain ⟨j, e, hj⟩ := ixN_some h
  obtain ⟨L', s, z⟩ := OwAll.set ow j (by simpa using hj) w n
  refine ⟨L', s, ?_⟩
  unfold setL
  rw [w.lenM, e, List.map_set]
  exact z
end
theorem ne_of_len {α : Type} {xs : List α} (h : 1 ≤ xs.length ∧ xs.length ≤ 1000000) : xs ≠ [] := by
  rintro rfl
  simp at h
end Vx
namespace Vx
open PySem PySem.Spec PyProof.Rows L2
/-! ### written dicts of ints -/
inductive EI : List (Int × Int) → List DictEntry → Prop
  | nil : EI [] []
  | cons {k v : Int} {t u : Tok} {r : List (Int × Int)} {es : List DictEntry} (h : EI r es) : EI ((k, v) :: r) (⟨hashInt k, .int k t, .int v u⟩ :: es)
def lookI : List (Int × Int) → Int → Option Int
  | [], _ => none
  | (k, v) :: r, i => if i = k then some v else lookI r i
def KDI (K : PySem.W.Frag) (a : Addr) (kvs : List (Int × Int)) : Prop :=
  ∃ es n, K.lookup a = some ⟨.type "dict", none, .dict es n, #[]⟩ ∧ (a == sysModules) = false ∧ EI kvs es.toList
theorem lookI_mem {kvs : List (Int × Int)} {i : Int} : (lookI kvs i).isSome = decide (i ∈ kvs.map (·.1)) := by
  induction kvs with
  | nil => rfl
  | cons p r ih =>
    obtain ⟨k, v⟩ := p
    unfold lookI
    by_cases q : i = k
    · rw [if_pos q]; simp [q]
    · rw [if_neg q, ih]; simp [q]
theorem EI.find {i : Int} : ∀ {kvs : List (Int × Int)} {es : List DictEntry}, EI kvs es → match lookI kvs i with
    | some v => ∃ u, (es.find? fun e => keyIs (.inl i) e.key).map (·.val) = some (.int v u)
    | none => (es.find? fun e => keyIs (.inl i) e.key).map (·.val) = none
  | _, _, .nil => rfl
  | _, _, .cons (k := k) (v := v) (t := t) (u := u) (r := r) (es := es) h => by
    have ih := EI.find (i := i) h
    unfold lookI
    by_cases q : i = k
    · subst q
      rw [if_pos rfl]
      refine ⟨u, ?_⟩
      rw [List.find?_cons_of_pos (by exact keyIs_int i t)]
      rfl
    · rw [if_neg q]
      have e : ¬ (keyIs (.inl i) (Value.int k t) = true) := by
        intro z
        obtain ⟨t', e'⟩ := Value.isInt_shape (k := i) (v := Value.int k t) z
        injection e' with e1 _
        exact q e1.symm
      rw [List.find?_cons_of_neg (by exact e)]
      exact ih
theorem EI.keys {P : Program} {w : World} : ∀ {kvs : List (Int × Int)} {es : List DictEntry}, EI kvs es → ∀ e ∈ es, ∃ k, (mixKind P w).is k e.key = true ∧ e.hash = (mixKind P w).hash k
  | _, _, .nil, e, he => nomatch he
  | _, _, .cons (k := k) (t := t) h, e, he => by
    rcases List.mem_cons.mp he with rfl | he
    · exact ⟨.inl k, keyIs_int k t, rfl⟩
    · exact EI.keys h e he
section
variable {X : Cx} {K : PySem.W.Frag}
theorem KDI.map {d : Addr} {kvs : List (Int × Int)} {pins : List (Addr × Obj)} {σ : L2.St} {H : Hp} {s : Shared} (D : KDI X.K d kvs) (I : Inv X pins σ H s) : (d == sysModules) = false ∧ ∃ f, s.heap.MapOf (mixKind X.prog X.w) d f ∧ ∀ i, match lookI kvs i with
    | some v => ∃ u, f (.inl i) = some (.int v u)
    | none => f (.inl i) = none := by
  obtain ⟨es, n, hl, hd, he⟩ := D
  refine ⟨hd, fun k => findBy keyIs es k, ⟨_, es, n, I.kIn _ _ hl, ⟨rfl, rfl, rfl⟩, rfl, fun e q => EI.keys he e (Array.mem_toList_iff.mpr q), fun _ => rfl⟩, fun i => ?_⟩
  have := EI.find (i := i) he
  have e : findBy keyIs es (.inl i) = (es.toList.find? fun e => keyIs (.inl i) e.key).map (·.val) := by
    obtain ⟨l⟩ := es
    unfold findBy
    rw [List.find?_toArray]
  show match lookI kvs i with
    | some v => ∃ u, findBy keyIs es (.inl i) = some (.int v u)
    | none => findBy keyIs es (.inl i) = none
  rw [e]
  exact this
def rInDI (K : PySem.W.Frag) : R2 := fun x y H Q => ∃ (i : Int) (d : Addr) (kvs : List (Int × Int)) (ks : List Int), x = .int i ∧ y = .ref d ∧ KDI K d kvs ∧ ks = kvs.map (·.1) ∧ Q (.bl (decide (i ∈ ks))) H
def rNotInDI (K : PySem.W.Frag) : R2 := fun x y H Q => ∃ (i : Int) (d : Addr) (kvs : List (Int × Int)) (ks : List Int), x = .int i ∧ y = .ref d ∧ KDI K d kvs ∧ ks = kvs.map (·.1) ∧ Q (.bl (!decide (i ∈ ks))) H
def rIxDI (K : PySem.W.Frag) : R2 := fun x y H Q => ∃ (d : Addr) (i v : Int) (kvs : List (Int × Int)), x = .ref d ∧ y = .int i ∧ KDI K d kvs ∧ lookI kvs i = some v ∧ Q (.int v) H
theorem op_inDI (hK : X.K = K := by rfl) : OpR X (compareOp .In) (rInDI K) := by
  subst hK
  intro pins s σ H x y v u Q I rx ry h
  obtain ⟨i, d, kvs, ks, rfl, rfl, D, rfl, q⟩ := h
  rw [← lookI_mem] at q
  obtain ⟨t, rfl⟩ := rx
  cases ry
  obtain ⟨hd, f, hm, hf⟩ := D.map I
  refine wpAny_in_of (knd := mixKind X.prog X.w) (kV_is (k := .inl i) ⟨t, rfl⟩) hd hm ?_
  have e : (f (.inl i)).isSome = (lookI kvs i).isSome := by
    have := hf i
    split at this
    · next v hv => obtain ⟨u, hu⟩ := this; rw [hu, hv]; rfl
    · next hv => rw [this, hv]; rfl
  rw [e]
  exact ⟨.bl (lookI kvs i).isSome, H, I.tok _, rfl, q⟩
theorem op_notInDI (hK : X.K = K := by rfl) : OpR X (compareOp .NotIn) (rNotInDI K) := by
  subst hK
  intro pins s σ H x y v u Q I rx ry h
  obtain ⟨i, d, kvs, ks, rfl, rfl, D, rfl, q⟩ := h
  rw [← lookI_mem] at q
  obtain ⟨t, rfl⟩ := rx
  cases ry
  obtain ⟨hd, f, hm, hf⟩ := D.map I
  refine wpAny_notIn_of (knd := mixKind X.prog X.w) (kV_is (k := .inl i) ⟨t, rfl⟩) hd hm ?_
  have e : (f (.inl i)).isSome = (lookI kvs i).isSome := by
    have := hf i
    split at this
    · next v hv => obtain ⟨u, hu⟩ := this; rw [hu, hv]; rfl
    · next hv => rw [this, hv]; rfl
  rw [e]
  exact ⟨.bl (!(lookI kvs i).isSome), H, I.tok _, rfl, q⟩
theorem ix_DI (hK : X.K = K := by rfl) : IxR X (rIxDI K) := by
  subst hK
  intro value slice pins s σ H x y v u Q I rx ry h hs
  obtain ⟨p, i, r, kvs, rfl, rfl, D, e, q⟩ := h
  obtain rfl : v = Value.ref p := rx
  obtain ⟨t, rfl⟩ := ry
  obtain ⟨hd, f, hm, hf⟩ := D.map I
  have := hf i
  rw [e] at this
  obtain ⟨u, hu⟩ := this
  exact tail_any hm.typeIs slot_dict_getitem.lookup (wpAny_getItem_of (knd := mixKind X.prog X.w) (kV_is (k := .inl i) ⟨t, rfl⟩) hm hu ⟨.int r, H, I.tok _, ⟨_, rfl⟩, q⟩) hs
end
/-- the value at a key that is there -/
def dictI (kvs : List (Int × Int)) (i : Int) : Int := (lookI kvs i).getD 0
theorem lookI_at {kvs : List (Int × Int)} {i : Int} (h : i ∈ kvs.map (·.1)) : lookI kvs i = some (dictI kvs i) := by
  have := lookI_mem (kvs := kvs) (i := i)
  rw [decide_eq_true h] at this
  unfold dictI
  cases e : lookI kvs i with
  | none => rw [e] at this; cases this
  | some v => rfl
/-! ### walks over two lists, over numbered items, backwards -/
theorem pi_enumK {X : Cx} {K : PySem.W.Frag} {e : Expr} {ta : TA} {p pos tpos : Pos} {elts : List Expr} {kk : Nat} (hg : Gl X "enumerate") (hm : X.mg "enumerate" = none) (ha : PA X [e] ta) (hK : X.K = K := by rfl) (hs : starEach [e] X.env = [(false, eval e X.env)] := by rfl) :
    PI X (.Tuple elts kk tpos) (.Call (.Name "enumerate" p) [e] [] pos) (iEnum K ta) := hK ▸ pi_enum hg hm ha hs
section
variable {K : PySem.W.Frag} {a b : Addr} {xs ys : List V} {g : TG} {tb : TS} {tt : TT} {te : TE} {D : Ends} {σ : L2.St} {H H1 : Hp} {vs : List Nat} {DD : Addr} {Qd : Hp → Prop}
theorem for_enum (Pv : Nat → L2.St → Hp → Prop) (h0 : Pv 0 σ H) (hq : ∀ i σ H, Pv i σ H → SqL K H a xs)
    (hs : ∀ (i : Nat) (y : V) (T : Addr) (σ : L2.St) (H : Hp), xs[i]? = some y → H T = none → Pv i σ H → g (.ref T) σ (upd H T (.tup [.int (i : Nat), y])) fun σ2 H2 => tb { D with nx := Pv (i + 1), ct := Pv (i + 1), bk := D.nx } σ2 H2) (hd : ∀ σ H, Pv xs.length σ H → D.nx σ H) :
    ∃ W : Nat → Nat → L2.St → Hp → Prop, (∃ m, W 0 m σ H) ∧ ∀ i m σ H, W i m σ H →
      ((Ite K a).stop i H ∧ D.nx σ H) ∨ ((Ite K a).go i H ∧ ∃ N : L2.St → Hp → Prop, (∀ σ' H', N σ' H' → ∃ m', m' < m ∧ W (i + 1) m' σ' H') ∧ ∀ v H', (Ite K a).yld i H v H' → g v σ H' fun σ2 H2 => tb { D with nx := N, ct := N, bk := D.nx } σ2 H2) := by
  refine for_it walk_enum Pv h0 (fun i σ H _ p => hq i σ H p) (fun i x σ H H' hi p y => ?_) hd
  obtain ⟨T, x1, y1, rfl, hT, rfl, h1, h2⟩ := y
  cases h1
  exact hs i y1 T σ H h2 hT p
theorem lc_enum (Pv : Nat → Hp → Prop) (h0 : Pv 0 (upd H1 DD (.lst []))) (hq : ∀ i H, i ≤ xs.length → Pv i H → SqL K H a xs)
    (hs : ∀ (i : Nat) (y : V) (T : Addr) (H : Hp), xs[i]? = some y → H T = none → Pv i H → g (.ref T) (wipe σ vs) (upd H T (.tup [.int (i : Nat), y])) fun σ2 H2 => wipe σ2 vs = wipe σ vs ∧ tt σ2 H2 fun b H3 =>
      if b = true then te σ2 H3 fun y H4 => ∃ acc, H4 DD = some (.lst acc) ∧ acc.length < sizeLine ∧ Pv (i + 1) (upd H4 DD (.lst (acc ++ [y]))) else Pv (i + 1) H3) (hd : ∀ H, Pv xs.length H → Qd H) :
    ∃ W : Nat → Nat → Hp → Prop, (∃ m, W 0 m (upd H1 DD (.lst []))) ∧ ∀ i m H, W i m H →
      ((Ite K a).stop i H ∧ Qd H) ∨ ((Ite K a).go i H ∧ ∃ Nx : Hp → Prop, (∀ H', Nx H' → ∃ m', m' < m ∧ W (i + 1) m' H') ∧ ∀ x H', (Ite K a).yld i H x H' → g x (wipe σ vs) H' fun σ2 H2 => wipe σ2 vs = wipe σ vs ∧ tt σ2 H2 fun b H3 =>
        if b = true then te σ2 H3 fun y H4 => ∃ acc, H4 DD = some (.lst acc) ∧ acc.length < sizeLine ∧ Nx (upd H4 DD (.lst (acc ++ [y]))) else Nx H3) := by
  refine lc_it walk_enum Pv h0 hq (fun i x H H' hi p y => ?_) hd
  obtain ⟨T, x1, y1, rfl, hT, rfl, h1, h2⟩ := y
  cases h1
  exact hs i y1 T H h2 hT p
/-- zip of two lists of any lengths -/
theorem for_zipM (n : Nat) (hn : n = min xs.length ys.length) (Pv : Nat → L2.St → Hp → Prop) (h0 : Pv 0 σ H) (hq : ∀ i σ H, Pv i σ H → SqL K H a xs ∧ SqL K H b ys)
    (hs : ∀ (i : Nat) (x y : V) (T : Addr) (σ : L2.St) (H : Hp), xs[i]? = some x → ys[i]? = some y → H T = none → Pv i σ H → g (.ref T) σ (upd H T (.tup [x, y])) fun σ2 H2 => tb { D with nx := Pv (i + 1), ct := Pv (i + 1), bk := D.nx } σ2 H2) (hd : ∀ σ H, Pv n σ H → D.nx σ H) :
    ∃ W : Nat → Nat → L2.St → Hp → Prop, (∃ m, W 0 m σ H) ∧ ∀ i m σ H, W i m σ H →
      ((Itz K a b).stop i H ∧ D.nx σ H) ∨ ((Itz K a b).go i H ∧ ∃ N : L2.St → Hp → Prop, (∀ σ' H', N σ' H' → ∃ m', m' < m ∧ W (i + 1) m' σ' H') ∧ ∀ v H', (Itz K a b).yld i H v H' → g v σ H' fun σ2 H2 => tb { D with nx := N, ct := N, bk := D.nx } σ2 H2) := by
  refine for_it (walk_zip hn) Pv h0 (fun i σ H _ p => hq i σ H p) (fun i x σ H H' hi p y => ?_) hd
  obtain ⟨T, x1, y1, rfl, hT, rfl, h1, h2⟩ := y
  exact hs i x1 y1 T σ H h1 h2 hT p
theorem lc_zipM (n : Nat) (hn : n = min xs.length ys.length) (Pv : Nat → Hp → Prop) (h0 : Pv 0 (upd H1 DD (.lst []))) (hq : ∀ i H, i ≤ n → Pv i H → SqL K H a xs ∧ SqL K H b ys)
    (hs : ∀ (i : Nat) (x y : V) (T : Addr) (H : Hp), xs[i]? = some x → ys[i]? = some y → H T = none → Pv i H → g (.ref T) (wipe σ vs) (upd H T (.tup [x, y])) fun σ2 H2 => wipe σ2 vs = wipe σ vs ∧ tt σ2 H2 fun b H3 =>
      if b = true then te σ2 H3 fun y H4 => ∃ acc, H4 DD = some (.lst acc) ∧ acc.length < sizeLine ∧ Pv (i + 1) (upd H4 DD (.lst (acc ++ [y]))) else Pv (i + 1) H3) (hd : ∀ H, Pv n H → Qd H) :
    ∃ W : Nat → Nat → Hp → Prop, (∃ m, W 0 m (upd H1 DD (.lst []))) ∧ ∀ i m H, W i m H →
      ((Itz K a b).stop i H ∧ Qd H) ∨ ((Itz K a b).go i H ∧ ∃ Nx : Hp → Prop, (∀ H', Nx H' → ∃ m', m' < m ∧ W (i + 1) m' H') ∧ ∀ x H', (Itz K a b).yld i H x H' → g x (wipe σ vs) H' fun σ2 H2 => wipe σ2 vs = wipe σ vs ∧ tt σ2 H2 fun b H3 =>
        if b = true then te σ2 H3 fun y H4 => ∃ acc, H4 DD = some (.lst acc) ∧ acc.length < sizeLine ∧ Nx (upd H4 DD (.lst (acc ++ [y]))) else Nx H3) := by
  refine lc_it (walk_zip hn) Pv h0 hq (fun i x H H' hi p y => ?_) hd
  obtain ⟨T, x1, y1, rfl, hT, rfl, h1, h2⟩ := y
  exact hs i x1 y1 T H h1 h2 hT p
end
theorem zipM_len {α β : Type} {xs : List α} {ys : List β} : min xs.length ys.length = (xs.zip ys).length := by rw [List.length_zip]
theorem zipM_n {α β : Type} {vs ws : List V} {xs : List α} {ys : List β} (a : vs.length = xs.length) (b : ws.length = ys.length) : min xs.length ys.length = min vs.length ws.length := by rw [a, b]
def rListTK (K : PySem.W.Frag) : List V → Hp → VK → Prop := fun xs H Q => ∃ (p : Addr) (vs : List V), xs = [.ref p] ∧ SqT K H p vs ∧ ∀ l, H l = none → Q (.ref l) (upd H l (.lst vs))
theorem call_listTK {X : Cx} {K : PySem.W.Frag} (hK : X.K = K := by rfl) : CallR X (.type "list") (rListTK K) := by
  subst hK
  intro pins s σ H xs us Q I r h
  obtain ⟨p, vs, rfl, hs, q⟩ := h
  exact call_list_of pins s σ H _ us Q I r ⟨p, _, rfl, Or.inr hs, q⟩
/-- two lists that keep step -/
inductive F2 {α β : Type} (P : α → β → Prop) : List α → List β → Prop
  | nil : F2 P [] []
  | cons {a : α} {b : β} {l : List α} {m : List β} (h : P a b) (t : F2 P l m) : F2 P (a :: l) (b :: m)
theorem F2.get {α β : Type} {P : α → β → Prop} : ∀ {l : List α} {m : List β}, F2 P l m → ∀ (j : Nat), j < l.length → ∃ a b, l[j]? = some a ∧ m[j]? = some b ∧ P a b
  | _, _, .nil, j, h => absurd h (Nat.not_lt_zero _)
  | _, _, .cons h t, 0, _ => ⟨_, _, rfl, rfl, h⟩
  | _, _, .cons h t, j + 1, hj => t.get j (Nat.lt_of_succ_lt_succ hj)
theorem F2.at {α β : Type} [Inhabited α] [Inhabited β] {P : α → β → Prop} {l : List α} {m : List β} (h : F2 P l m) (k : Int) (h0 : 0 ≤ k) (h1 : k < l.length) : P (itD l k) (itD m k) := by
  obtain ⟨j, rfl⟩ : ∃ j : Nat, k = (j : Int) := ⟨k.toNat, by omega⟩
  obtain ⟨a, b, ha, hb, p⟩ := h.get j (by omega)
  have e1 : itD l (j : Int) = a := by unfold itD; rw [atI_nat ha]; rfl
  have e2 : itD m (j : Int) = b := by unfold itD; rw [atI_nat hb]; rfl
  rw [e1, e2]
  exact p
theorem SqT.cast {K : PySem.W.Frag} {H : Hp} {a : Addr} {xs ys : List V} (h : SqT K H a xs) (e : xs = ys) : SqT K H a ys := e ▸ h
/-- enumerate(xs) -/
def enumL {α : Type} (xs : List α) : List (Int × α) := (rng 0 xs.length).zip xs
theorem enumL_len {α : Type} (xs : List α) : (enumL xs).length = xs.length := by
  unfold enumL
  rw [List.length_zip, rng_len, Nat.min_self]
theorem enumL_get {α : Type} {xs : List α} {i : Nat} {x : α} (h : xs[i]? = some x) : (enumL xs)[i]? = some ((i : Int), x) := by
  have hl : i < xs.length := (List.getElem?_eq_some_iff.mp h).1
  unfold enumL
  rw [List.getElem?_zip_eq_some]
  refine ⟨?_, h⟩
  have := rng_get (lo := 0) hl
  rw [this]
  congr 1
  omega
end Vx
namespace Vx
open PySem PySem.Spec PyProof.Rows L2
theorem wipe_get : ∀ (σ : L2.St) (vs : List Nat) (j : Nat), (wipe σ vs)[j]? = if j ∈ vs ∧ j < σ.length then some none else σ[j]?
  | σ, [], j => by simp [wipe]
  | σ, v :: vs, j => by
    unfold wipe
    by_cases e : v = j
    · subst e
      by_cases h : v < σ.length
      · rw [List.getElem?_set_self (by rw [wipe_length]; exact h), if_pos ⟨List.mem_cons_self, h⟩]
      · rw [if_neg (fun z => h z.2), List.getElem?_eq_none (by rw [List.length_set, wipe_length]; omega), List.getElem?_eq_none (by omega)]
    · rw [List.getElem?_set_ne e, wipe_get σ vs j]
      have : (j ∈ v :: vs ∧ j < σ.length) ↔ (j ∈ vs ∧ j < σ.length) := by
        constructor
        · rintro ⟨h1, h2⟩
          rcases List.mem_cons.mp h1 with rfl | h1
          · exact absurd rfl e
          · exact ⟨h1, h2⟩
        · rintro ⟨h1, h2⟩
          exact ⟨List.mem_cons_of_mem _ h1, h2⟩
      by_cases q : j ∈ vs ∧ j < σ.length
      · rw [if_pos q, if_pos (this.mpr q)]
      · rw [if_neg q, if_neg (fun z => q (this.mp z))]
theorem wipe_wipe {σ : L2.St} {vs : List Nat} : wipe (wipe σ vs) vs = wipe σ vs := by
  apply List.ext_getElem?
  intro j
  rw [wipe_get (wipe σ vs), wipe_length]
  by_cases q : j ∈ vs ∧ j < σ.length
  · rw [if_pos q, wipe_get, if_pos q]
  · rw [if_neg q]
theorem wipe_set {σ : L2.St} {vs : List Nat} {v : Nat} {x : Option V} (h : v ∈ vs) : wipe (σ.set v x) vs = wipe σ vs := by
  apply List.ext_getElem?
  intro j
  rw [wipe_get, wipe_get, List.length_set]
  by_cases q : j ∈ vs ∧ j < σ.length
  · rw [if_pos q, if_pos q]
  · rw [if_neg q, if_neg q]
    by_cases e : v = j
    · subst e
      have hl : ¬ v < σ.length := fun z => q ⟨h, z⟩
      rw [List.getElem?_eq_none (by rw [List.length_set]; omega), List.getElem?_eq_none (by omega)]
    · rw [List.getElem?_set_ne e]
/-- a comprehension over a step range -/
theorem lc_rangeC {lo c : Int} {n : Nat} {g : TG} {tt : TT} {te : TE} {vs : List Nat} {σ : L2.St} {H1 : Hp} {D : Addr} {Qd : Hp → Prop} (Pv : Nat → Hp → Prop) (h0 : Pv 0 (upd H1 D (.lst [])))
    (hs : ∀ i H, i < n → Pv i H → g (.int (lo + (i : Nat) * c)) (wipe σ vs) H fun σ2 H2 => wipe σ2 vs = wipe σ vs ∧ tt σ2 H2 fun b H3 =>
      if b = true then te σ2 H3 fun y H4 => ∃ acc, H4 D = some (.lst acc) ∧ acc.length < sizeLine ∧ Pv (i + 1) (upd H4 D (.lst (acc ++ [y]))) else Pv (i + 1) H3) (hd : ∀ H, Pv n H → Qd H) :
    ∃ W : Nat → Nat → Hp → Prop, (∃ m, W 0 m (upd H1 D (.lst []))) ∧ ∀ i m H, W i m H →
      ((Itc lo c n).stop i H ∧ Qd H) ∨ ((Itc lo c n).go i H ∧ ∃ Nx : Hp → Prop, (∀ H', Nx H' → ∃ m', m' < m ∧ W (i + 1) m' H') ∧ ∀ x H', (Itc lo c n).yld i H x H' → g x (wipe σ vs) H' fun σ2 H2 => wipe σ2 vs = wipe σ vs ∧ tt σ2 H2 fun b H3 =>
        if b = true then te σ2 H3 fun y H4 => ∃ acc, H4 D = some (.lst acc) ∧ acc.length < sizeLine ∧ Nx (upd H4 D (.lst (acc ++ [y]))) else Nx H3) := by
  refine ⟨fun i m H => m = n - i ∧ i ≤ n ∧ Pv i H, ⟨n, by simp, Nat.zero_le _, h0⟩, ?_⟩
  rintro i m H ⟨rfl, hi, p⟩
  rcases Nat.lt_or_ge i n with hlt | hge
  · refine .inr ⟨hlt, Pv (i + 1), fun H' p' => ⟨n - (i + 1), by omega, rfl, hlt, p'⟩, fun x H' y => ?_⟩
    obtain ⟨e, y⟩ := y
    subst e y
    exact hs i _ hlt p
  · cases Nat.le_antisymm hi hge
    exact .inl ⟨Nat.le_refl _, hd H p⟩

/-! ### reversed(list of ints), any(list of ints) -/
theorem pi_revK {X : Cx} {K : PySem.W.Frag} {tg : Expr} {e : Expr} {ta : TA} {p pos : Pos} (hg : Gl X "reversed") (hm : X.mg "reversed" = none) (ha : PA X [e] ta) (hK : X.K = K := by rfl) (hs : starEach [e] X.env = [(false, eval e X.env)] := by rfl) :
    PI X tg (.Call (.Name "reversed" p) [e] [] pos) (iRev K ta) := hK ▸ pi_reversed hg hm ha hs
theorem for_revI {K : PySem.W.Frag} {a : Addr} {xs : List Int} {g : TG} {tb : TS} {D : Ends} {σ : L2.St} {H : Hp} (Pv : Nat → L2.St → Hp → Prop) (h0 : Pv 0 σ H) (hl : ∀ i σ H, i ≤ (xs.reverse.map V.int).length → Pv i σ H → SqL K H a (xs.map V.int))
    (hs : ∀ i x σ H, (xs.reverse.map V.int)[i]? = some x → Pv i σ H → g x σ H fun σ2 H2 => tb { D with nx := Pv (i + 1), ct := Pv (i + 1), bk := D.nx } σ2 H2) (hd : ∀ σ H, Pv (xs.reverse.map V.int).length σ H → D.nx σ H) :
    ∃ W : Nat → Nat → L2.St → Hp → Prop, (∃ m, W 0 m σ H) ∧ ∀ i m σ H, W i m σ H →
      ((Itv K a (xs.map V.int).length).stop i H ∧ D.nx σ H) ∨ ((Itv K a (xs.map V.int).length).go i H ∧ ∃ N : L2.St → Hp → Prop, (∀ σ' H', N σ' H' → ∃ m', m' < m ∧ W (i + 1) m' σ' H') ∧ ∀ x H', (Itv K a (xs.map V.int).length).yld i H x H' → g x σ H' fun σ2 H2 => tb { D with nx := N, ct := N, bk := D.nx } σ2 H2) := by
  have en : (xs.reverse.map V.int).length = (xs.map V.int).length := by rw [List.length_map, List.length_map, List.length_reverse]
  rw [en] at hl hd
  refine for_it walk_rev Pv h0 hl (fun i x σ H H' hi p y => ?_) hd
  obtain ⟨rfl, hx⟩ := y
  refine hs i x σ _ ?_ p
  rw [List.map_reverse, List.getElem?_reverse hi]
  exact hx
theorem ints_get : ∀ {ns : List Int} {us : List Value} {i : Nat} {v : Value}, IntsAre us ns → us[i]? = some v → ∃ t, v = .int (ns.getD i 0) t := by
  intro ns us i v h
  induction h generalizing i with
  | nil => intro z; simp at z
  | cons n t _ ih =>
    intro z
    cases i with
    | zero => simp at z; exact ⟨t, by rw [← z]; rfl⟩
    | succ i => exact ih (by simpa using z)
theorem any_rangeI : ∀ ns : List Int, (List.range ns.length).any (fun i => ns.getD i 0 != 0) = ns.any (fun x => x != 0)
  | [] => rfl
  | b :: bs => by
    rw [List.length_cons, List.range_succ_eq_map, List.any_cons, List.any_map, List.any_cons, ← any_rangeI bs]
    all_goals rfl
theorem ints_len : ∀ {ns : List Int} {us : List Value}, IntsAre us ns → us.length = ns.length := by
  intro ns us h
  induction h with
  | nil => rfl
  | cons _ _ _ ih => simp [ih]
def rAnyI (K : PySem.W.Frag) : List V → Hp → VK → Prop := fun vs H Q => ∃ (a : Addr) (ns : List Int), vs = [V.ref a] ∧ SqL K H a (ns.map V.int) ∧ Q (.bl (ns.any fun x => x != 0)) H
theorem cr_anyI {X : Cx} (hc : X.calm = true) : CallR X (.builtin "any") (rAnyI X.K) := by
  intro pins s σ H vs us Q I r h
  obtain ⟨a, ns, rfl, hs, q⟩ := h
  obtain ⟨its, rv, hl, _⟩ := I.list hs
  rw [Vals.ref1 r]
  have hb := rv.ints
  refine call_any_walk (iter_any hl.isList fun s₂ e2 st hne => ?_)
  subst e2
  have ht : TruthOf X.prog X.w X.A.in1 (fun i v => its.toArray[i]? = some v) (fun i => ns.getD i 0 != 0) := fun i v s Q E hv hq => by
    obtain ⟨t, rfl⟩ := ints_get hb (by simpa using hv)
    exact PyProof.Rows.truthy_int hq
  refine ⟨_, _, _, _, _, _, _, rfl, Walks.list (A := X.A.in1) (I.ok.hd hc) _ a hne its.toArray, st, ht, fun h' tk hk => ?_⟩
  refine ⟨.bl _, H, I.kept fun b o eo => hk b o (fun hmem => ?_) (Heap.get?_push_of_some _ eo), ?_, q⟩
  · rcases List.mem_cons.mp hmem with e1 | hmem
    · exact absurd (e1 ▸ Heap.lt_size eo) (Nat.lt_irrefl _)
    · cases hmem
  · show Value.bool _ = Value.bool _
    rw [← any_rangeI, List.size_toArray, ints_len hb]
theorem cr_anyIK {X : Cx} {K : PySem.W.Frag} (hc : X.calm = true) (hK : X.K = K := by rfl) : CallR X (.builtin "any") (rAnyI K) := hK ▸ cr_anyI hc
/-- an item of a list of data stored anew -/
theorem RpAll.setM {α : Type} {f : α → PyData} {G : Hp} {vs : List V} {xs : List α} {k : Int} {v : V} {y : α} (d : RpAll G vs (xs.map f)) (r : Rp G v (f y)) : RpAll G (vs.set ((ixN vs.length k).getD 0) v) ((setL xs k y).map f) := by
  have e : vs.length = xs.length := by rw [d.len, List.length_map]
  unfold setL
  rw [List.map_set, e]
  exact RpAll.set r _ d
end Vx
/-! # data of any shape: None beside data, tuples of several shapes -/
namespace Vx
open PySem PySem.Spec PyProof.Rows L2
def encD (d : PyData) : PyData := d
def encN (_ : Unit) : PyData := .none
def encT1 {α : Type} (f : α → PyData) (x : α) : PyData := .tuple [f x]
instance instInhD : Inhabited PyData := ⟨.none⟩
/-- a known shape: what is laid, what is read back, whether the data has the shape -/
structure Cst (α : Type) where
  enc : α → PyData
  dec : PyData → α
  ok : PyData → Bool
  h : ∀ d, ok d = true → enc (dec d) = d
  oke : ∀ x, ok (enc x) = true
  de : ∀ x, dec (enc x) = x
def cI : Cst Int := ⟨PyData.int, fun d => match d with | .int i => i | _ => 0, fun d => match d with | .int _ => true | _ => false, fun d h => (by cases d <;> first | rfl | (cases h)), fun _ => rfl, fun _ => rfl⟩
def cB : Cst Bool := ⟨PyData.bool, fun d => match d with | .bool i => i | _ => false, fun d => match d with | .bool _ => true | _ => false, fun d h => (by cases d <;> first | rfl | (cases h)), fun _ => rfl, fun _ => rfl⟩
def cS : Cst Str := ⟨PyData.str, fun d => match d with | .str i => i | _ => "", fun d => match d with | .str _ => true | _ => false, fun d h => (by cases d <;> first | rfl | (cases h)), fun _ => rfl, fun _ => rfl⟩
def cN : Cst Unit := ⟨encN, fun _ => (), fun d => match d with | .none => true | _ => false, fun d h => (by cases d <;> first | rfl | (cases h)), fun _ => rfl, fun _ => rfl⟩
def cD : Cst PyData := ⟨encD, fun d => d, fun _ => true, fun _ _ => rfl, fun _ => rfl, fun _ => rfl⟩
theorem map_dec {α : Type} (c : Cst α) : ∀ xs : List PyData, xs.all c.ok = true → (xs.map c.dec).map c.enc = xs
  | [], _ => rfl
  | x :: xs, h => by
    rw [List.all_cons, Bool.and_eq_true] at h
    rw [List.map_cons, List.map_cons, c.h x h.1, map_dec c xs h.2]
def cL {α : Type} (c : Cst α) : Cst (List α) where
  enc := encL c.enc
  dec := fun d => match d with | .list xs => xs.map c.dec | _ => []
  ok := fun d => match d with | .list xs => xs.all c.ok | _ => false
  h := fun d h => by
    cases d with
    | list xs => exact congrArg PyData.list (map_dec c xs h)
    | _ => cases h
  oke := fun x => by
    show (x.map c.enc).all c.ok = true
    rw [List.all_map, List.all_eq_true]
    exact fun a _ => c.oke a
  de := fun x => by
    show (x.map c.enc).map c.dec = x
    rw [List.map_map]
    have e : c.dec ∘ c.enc = id := funext c.de
    rw [e, List.map_id]
def cT1 {α : Type} (a : Cst α) : Cst α where
  enc := encT1 a.enc
  dec := fun d => match d with | .tuple [x] => a.dec x | _ => a.dec .none
  ok := fun d => match d with | .tuple [x] => a.ok x | _ => false
  h := fun d h => by
    split at h
    · next x => exact congrArg (fun z => PyData.tuple [z]) (a.h x h)
    · cases h
  oke := fun x => a.oke x
  de := fun x => a.de x
def cT2 {α β : Type} (a : Cst α) (b : Cst β) : Cst (α × β) where
  enc := encT2 a.enc b.enc
  dec := fun d => match d with | .tuple [x, y] => (a.dec x, b.dec y) | _ => (a.dec .none, b.dec .none)
  ok := fun d => match d with | .tuple [x, y] => a.ok x && b.ok y | _ => false
  h := fun d h => by
    split at h
    · next x y =>
      rw [Bool.and_eq_true] at h
      show PyData.tuple [a.enc (a.dec x), b.enc (b.dec y)] = _
      rw [a.h x h.1, b.h y h.2]
    · cases h
  oke := fun x => by show (a.ok (a.enc x.1) && b.ok (b.enc x.2)) = true; rw [a.oke, b.oke]; rfl
  de := fun x => by show (a.dec (a.enc x.1), b.dec (b.enc x.2)) = x; rw [a.de, b.de]
def cT3 {α β γ : Type} (a : Cst α) (b : Cst β) (c : Cst γ) : Cst (α × β × γ) where
  enc := encT3 a.enc b.enc c.enc
  dec := fun d => match d with | .tuple [x, y, z] => (a.dec x, b.dec y, c.dec z) | _ => (a.dec .none, b.dec .none, c.dec .none)
  ok := fun d => match d with | .tuple [x, y, z] => a.ok x && b.ok y && c.ok z | _ => false
  h := fun d h => by
    split at h
    · next x y z =>
      simp only [Bool.and_eq_true] at h
      show PyData.tuple [a.enc (a.dec x), b.enc (b.dec y), c.enc (c.dec z)] = _
      rw [a.h x h.1.1, b.h y h.1.2, c.h z h.2]
    · cases h
  oke := fun x => by show (a.ok (a.enc x.1) && b.ok (b.enc x.2.1) && c.ok (c.enc x.2.2)) = true; rw [a.oke, b.oke, c.oke]; rfl
  de := fun x => by show (a.dec (a.enc x.1), b.dec (b.enc x.2.1), c.dec (c.enc x.2.2)) = x; rw [a.de, b.de, c.de]
def cT4 {α β γ δ : Type} (a : Cst α) (b : Cst β) (c : Cst γ) (e : Cst δ) : Cst (α × β × γ × δ) where
  enc := encT4 a.enc b.enc c.enc e.enc
  dec := fun d => match d with | .tuple [x, y, z, w] => (a.dec x, b.dec y, c.dec z, e.dec w) | _ => (a.dec .none, b.dec .none, c.dec .none, e.dec .none)
  ok := fun d => match d with | .tuple [x, y, z, w] => a.ok x && b.ok y && c.ok z && e.ok w | _ => false
  h := fun d h => by
    split at h
    · next x y z w =>
      simp only [Bool.and_eq_true] at h
      show PyData.tuple [a.enc (a.dec x), b.enc (b.dec y), c.enc (c.dec z), e.enc (e.dec w)] = _
      rw [a.h x h.1.1.1, b.h y h.1.1.2, c.h z h.1.2, e.h w h.2]
    · cases h
  oke := fun x => by show (a.ok (a.enc x.1) && b.ok (b.enc x.2.1) && c.ok (c.enc x.2.2.1) && e.ok (e.enc x.2.2.2)) = true; rw [a.oke, b.oke, c.oke, e.oke]; rfl
  de := fun x => by show (a.dec (a.enc x.1), b.dec (b.enc x.2.1), c.dec (c.enc x.2.2.1), e.dec (e.enc x.2.2.2)) = x; rw [a.de, b.de, c.de, e.de]
section
variable {H : Hp} {v : V} {d : PyData}
theorem rp_dcast {α : Type} (c : Cst α) (g : c.ok d = true) (r : Rp H v d) : Rp H v (c.enc (c.dec d)) := by rw [c.h d g]; exact r
def dNone : PyData → Bool
  | .none => true
  | _ => false
def dSeq : PyData → Bool
  | .list _ => true
  | .tuple _ => true
  | _ => false
def dTup : PyData → Bool
  | .tuple _ => true
  | _ => false
def dLst : PyData → Bool
  | .list _ => true
  | _ => false
def dInt : PyData → Bool
  | .int _ => true
  | .bool _ => true
  | _ => false
def dBool : PyData → Bool
  | .bool _ => true
  | _ => false
def dGet : PyData → Nat → PyData
  | .tuple xs, k => xs.getD k .none
  | .list xs, k => xs.getD k .none
  | _, _ => .none
def dHasT : PyData → Nat → Bool
  | .tuple xs, k => decide (k < xs.length)
  | _, _ => false
theorem rp_ref (g : dSeq d = true) (r : Rp H v d) : ∃ a, v = .ref a := by
  cases r <;> first | exact ⟨_, rfl⟩ | cases g
theorem rp_dget {k : Nat} (g : dHasT d k = true) (r : Rp H v d) : ∃ a vs u, v = .ref a ∧ H a = some (.tup vs) ∧ atI vs (k : Int) = some u ∧ Rp H u (dGet d k) := by
  cases r with
  | tup h rs =>
    rename_i ds
    have hk : k < ds.length := of_decide_eq_true g
    obtain ⟨u, h1, h2⟩ := RpAll.at' (i := k) (d := ds[k]) rs (List.getElem?_eq_getElem hk)
    refine ⟨_, _, u, rfl, h, ?_, ?_⟩
    · exact atI_nat h1
    · show Rp H u (ds.getD k .none)
      rw [List.getD_eq_getElem?_getD, List.getElem?_eq_getElem hk]
      exact h2
  | _ => cases g
theorem rp_non {x : Unit} (r : Rp H v (encN x)) : v = .non := by unfold encN at r; cases r; rfl
theorem rp_tup1 {α : Type} {f : α → PyData} {x : α} (r : Rp H v (encT1 f x)) : ∃ a v1, v = .ref a ∧ H a = some (.tup [v1]) ∧ Rp H v1 (f x) := by
  unfold encT1 at r
  cases r with
  | tup h1 h2 =>
    cases h2 with
    | cons r1 t => cases t; exact ⟨_, _, rfl, h1, r1⟩
theorem rp_mk1 {α : Type} {f : α → PyData} {a : Addr} {v1 : V} {x : α} (h1 : H a = some (.tup [v1])) (r1 : Rp H v1 (f x)) : Rp H (.ref a) (encT1 f x) := .tup h1 (.cons r1 .nil)
theorem rp_none_iff (r : Rp H v d) : decide (v = V.non) = dNone d := by
  cases r <;> simp [dNone]
end
section
variable {X : Cx}
def rIsND : R2 := fun x y H Q => ∃ d, y = .non ∧ Rp H x d ∧ Q (.bl (dNone d)) H
def rNotND : R2 := fun x y H Q => ∃ d, y = .non ∧ Rp H x d ∧ Q (.bl (!dNone d)) H
theorem op_isND : OpR X (compareOp .Is) rIsND := by
  intro pins s σ H x y v u Q I rx ry h
  obtain ⟨d, e, r, q⟩ := h
  exact op_isN pins s σ H x y v u Q I rx ry ⟨e, by rw [rp_none_iff r]; exact q⟩
theorem op_notND : OpR X (compareOp .IsNot) rNotND := by
  intro pins s σ H x y v u Q I rx ry h
  obtain ⟨d, e, r, q⟩ := h
  exact op_notN pins s σ H x y v u Q I rx ry ⟨e, by rw [rp_none_iff r]; exact q⟩
def rEqD : R2 := fun x y H Q => ∃ a b : PyData, Rp H x a ∧ Rp H y b ∧ (SeqAt.shaped a = true ∧ SeqAt.shaped b = true) ∧ Q (.bl (PyData.eqv a b)) H
def rNeD : R2 := fun x y H Q => ∃ a b : PyData, Rp H x a ∧ Rp H y b ∧ (SeqAt.shaped a = true ∧ SeqAt.shaped b = true) ∧ Q (.bl (!PyData.eqv a b)) H
theorem op_eqDD (hu : X.A.units + 64 < cLine) : OpR X (compareOp .Eq) rEqD := by
  intro pins s σ H x y v u Q I rx ry h
  obtain ⟨a, b, h1, h2, ⟨s1, s2⟩, q⟩ := h
  exact op_eqD hu pins s σ H _ _ v u Q I rx ry ⟨_, _, h1.dp, h2.dp, s1, s2, q⟩
theorem op_neDD (hu : X.A.units + 64 < cLine) : OpR X (compareOp .NotEq) rNeD := by
  intro pins s σ H x y v u Q I rx ry h
  obtain ⟨a, b, h1, h2, ⟨s1, s2⟩, q⟩ := h
  exact op_neD hu pins s σ H _ _ v u Q I rx ry ⟨_, _, h1.dp, h2.dp, s1, s2, q⟩
def dTy : PyData → String
  | .none => "NoneType"
  | .bool _ => "bool"
  | .int _ => "int"
  | .str _ => "str"
  | .list _ => "list"
  | .tuple _ => "tuple"
  | .dict _ => "dict"
theorem Rp.tyX {K : PySem.W.Frag} {H : Hp} {v : V} {d : PyData} (r : Rp H v d) : TyX K H v (.type (dTy d)) := by
  cases r with
  | non => exact .base .non
  | bl b => exact .base (.bl b)
  | int i => exact .base (.int i)
  | str x => exact .base (.str x)
  | lst h _ => exact .base (.lst h)
  | tup h _ => exact .base (.tup h)
def rIsiD (T : String) (f : PyData → Bool) : List V → Hp → VK → Prop := fun xs H Q => ∃ (x : V) (d : PyData), xs = [x, .ty T] ∧ Rp H x d ∧ Q (.bl (f d)) H
theorem call_isiD {T : String} {f : PyData → Bool} (hT : ∀ d, kitB (dTy d) T = some (f d)) : CallR X (.builtin "isinstance") (rIsiD T f) := by
  intro pins s σ H xs us Q I r h
  obtain ⟨x, d, rfl, rx, q⟩ := h
  exact call_isi pins s σ H _ us Q I r ⟨x, .ty T, _, _, _, rfl, .ty T, rx.tyX, kit_ty (hT d), q⟩
theorem kit_dTup (d : PyData) : kitB (dTy d) "tuple" = some (dTup d) := by
  cases d with
  | none => exact (by decide +kernel : kitB "NoneType" "tuple" = some false)
  | bool _ => exact (by decide +kernel : kitB "bool" "tuple" = some false)
  | int _ => exact (by decide +kernel : kitB "int" "tuple" = some false)
  | str _ => exact (by decide +kernel : kitB "str" "tuple" = some false)
  | list _ => exact (by decide +kernel : kitB "list" "tuple" = some false)
  | tuple _ => exact (by decide +kernel : kitB "tuple" "tuple" = some true)
  | dict _ => exact (by decide +kernel : kitB "dict" "tuple" = some false)
theorem kit_dLst (d : PyData) : kitB (dTy d) "list" = some (dLst d) := by
  cases d with
  | none => exact (by decide +kernel : kitB "NoneType" "list" = some false)
  | bool _ => exact (by decide +kernel : kitB "bool" "list" = some false)
  | int _ => exact (by decide +kernel : kitB "int" "list" = some false)
  | str _ => exact (by decide +kernel : kitB "str" "list" = some false)
  | list _ => exact (by decide +kernel : kitB "list" "list" = some true)
  | tuple _ => exact (by decide +kernel : kitB "tuple" "list" = some false)
  | dict _ => exact (by decide +kernel : kitB "dict" "list" = some false)
theorem kit_dInt (d : PyData) : kitB (dTy d) "int" = some (dInt d) := by
  cases d with
  | none => exact (by decide +kernel : kitB "NoneType" "int" = some false)
  | bool _ => exact (by decide +kernel : kitB "bool" "int" = some true)
  | int _ => exact (by decide +kernel : kitB "int" "int" = some true)
  | str _ => exact (by decide +kernel : kitB "str" "int" = some false)
  | list _ => exact (by decide +kernel : kitB "list" "int" = some false)
  | tuple _ => exact (by decide +kernel : kitB "tuple" "int" = some false)
  | dict _ => exact (by decide +kernel : kitB "dict" "int" = some false)
theorem kit_dBool (d : PyData) : kitB (dTy d) "bool" = some (dBool d) := by
  cases d with
  | none => exact (by decide +kernel : kitB "NoneType" "bool" = some false)
  | bool _ => exact (by decide +kernel : kitB "bool" "bool" = some true)
  | int _ => exact (by decide +kernel : kitB "int" "bool" = some false)
  | str _ => exact (by decide +kernel : kitB "str" "bool" = some false)
  | list _ => exact (by decide +kernel : kitB "list" "bool" = some false)
  | tuple _ => exact (by decide +kernel : kitB "tuple" "bool" = some false)
  | dict _ => exact (by decide +kernel : kitB "dict" "bool" = some false)
end
/-! ### written dicts of numbers with text keys -/
inductive ES (P : Params) : List (Str × Int) → List DictEntry → Prop
  | nil : ES P [] []
  | cons {h k v} {t u : Tok} {r : List (Str × Int)} {es : List DictEntry} (e : h = PyData.keyHash P k) (x : ES P r es) : ES P ((k, v) :: r) (⟨h, .str k t, .int v u⟩ :: es)
def lookS : List (Str × Int) → Str → Option Int
  | [], _ => none
  | (k, v) :: r, i => if k = i then some v else lookS r i
def KDS (K : PySem.W.Frag) (w : World) (a : Addr) (kvs : List (Str × Int)) : Prop :=
  ∃ es n, K.lookup a = some ⟨.type "dict", none, .dict es n, #[]⟩ ∧ ES w.params kvs es.toList
theorem ES.lit {P : Params} : ∀ {kvs : List (Str × Int)} {es : List DictEntry}, ES P kvs es → PySem.W.KeysLit P es
  | _, _, .nil => trivial
  | _, _, .cons e x => ⟨⟨_, _, rfl, e⟩, ES.lit x⟩
theorem ES.find {P : Params} {i : Str} {v : Int} : ∀ {kvs : List (Str × Int)} {es : List DictEntry}, ES P kvs es → lookS kvs i = some v → ∃ e u, es.find? (fun e => e.key.isStr i) = some e ∧ e.val = .int v u
  | _, _, .nil, h => by cases h
  | _, _, .cons (k := k) (u := u) e x, h => by
    unfold lookS at h
    by_cases q : k = i
    · rw [if_pos q] at h
      subst q
      cases h
      refine ⟨_, u, List.find?_cons_of_pos ?_, rfl⟩
      simp [Value.isStr]
    · rw [if_neg q] at h
      obtain ⟨e', u', h1, h2⟩ := ES.find x h
      refine ⟨e', u', ?_, h2⟩
      rw [List.find?_cons_of_neg]
      · exact h1
      · simp [Value.isStr, q]
theorem KDS.at {K : PySem.W.Frag} {w : World} {a : Addr} {kvs : List (Str × Int)} {z : Str} {v : Int} (D : KDS K w a kvs) (h : lookS kvs z = some v) : KDct K w a z (.int v) := by
  obtain ⟨es, n, hl, x⟩ := D
  obtain ⟨e, u, h1, h2⟩ := x.find h
  refine ⟨es, n, .int v u, hl, x.lit, ?_, ⟨u, rfl⟩⟩
  unfold PySem.W.nsIn
  rw [hl]
  show (match es.toList.find? (fun e => e.key.isStr z) with
      | some e => some (some e.val)
      | none => if es.toList.any (·.refKey) then none else some none) = _
  rw [h1]
  show some (some e.val) = _
  rw [h2]
def rIxDS (K : PySem.W.Frag) (w : World) : R2 := fun x y H Q => ∃ (p : Addr) (z : Str) (kvs : List (Str × Int)) (v : Int), x = .ref p ∧ y = .str z ∧ KDS K w p kvs ∧ lookS kvs z = some v ∧ Q (.int v) H
theorem ix_DS {X : Cx} {K : PySem.W.Frag} {w : World} (hK : X.K = K := by rfl) (hw : X.w = w := by rfl) : IxR X (rIxDS K w) := by
  subst hK hw
  intro value slice pins s σ H x y v u Q I rx ry h hs
  obtain ⟨p, z, kvs, r, e1, e2, D, e, q⟩ := h
  exact ix_kdict value slice pins s σ H x y v u Q I rx ry ⟨p, z, .int r, e1, e2, D.at e, q⟩ hs
def dictS (kvs : List (Str × Int)) (i : Str) : Int := (lookS kvs i).getD 0
def hasS (kvs : List (Str × Int)) (i : Str) : Bool := (lookS kvs i).isSome
theorem lookS_at {kvs : List (Str × Int)} {i : Str} (h : hasS kvs i = true) : lookS kvs i = some (dictS kvs i) := by
  unfold hasS at h
  unfold dictS
  cases e : lookS kvs i with
  | none => rw [e] at h; cases h
  | some v => rfl
/-! ### for the mathematics -/
theorem eqv_enc {α : Type} [DecidableEq α] {n : Nat} {f : α → PyData} (ok : EncOk n f) (x y : α) : PyData.eqv (f x) (f y) = decide (x = y) := ok.eqv x y
end Vx
namespace Vx
open PySem PySem.Spec PyProof.Rows L2
theorem sm_str {x : Str} (h : (reprText x).length ≤ 20) : Sm 1 0 (.str x) := ⟨by simp only [smallD, decide_eq_true_eq]; exact h, by simp [nodes], by simp [PyData.depth]⟩
theorem sm_none : Sm 1 0 (encN ()) := sm_non
theorem sm_T1 {α : Type} {f : α → PyData} {n k : Nat} {p : α} (h1 : Sm n k (f p)) : Sm (1 + n) (k + 1) (encT1 f p) := by
  obtain ⟨a1, a2, a3⟩ := h1
  refine ⟨by simp [encT1, smallD, smallAll, a1], ?_, ?_⟩
  · simp only [encT1, nodes, nodesAll]
    omega
  · simp only [encT1, PyData.depth, PyData.depthAll]
    omega
theorem sm_T4 {α β γ δ : Type} {f : α → PyData} {g : β → PyData} {h : γ → PyData} {e : δ → PyData} {n k m j l i o q : Nat} {p : α × β × γ × δ} (h1 : Sm n k (f p.1)) (h2 : Sm m j (g p.2.1)) (h3 : Sm l i (h p.2.2.1)) (h4 : Sm o q (e p.2.2.2)) : Sm (1 + n + m + l + o) (max k (max j (max i q)) + 1) (encT4 f g h e p) := by
  obtain ⟨a1, a2, a3⟩ := h1
  obtain ⟨b1, b2, b3⟩ := h2
  obtain ⟨c1, c2, c3⟩ := h3
  obtain ⟨d1, d2, d3⟩ := h4
  refine ⟨by simp [encT4, smallD, smallAll, a1, b1, c1, d1], ?_, ?_⟩
  · simp only [encT4, nodes, nodesAll]
    omega
  · simp only [encT4, PyData.depth, PyData.depthAll]
    omega
theorem Sm.enc {n k : Nat} {d : PyData} (h : Sm n k d) : Sm n k (encD d) := h
end Vx
namespace Vx
theorem len8 {α : Type} {l : List α} (h : l.length = 8) : ∃ x0 x1 x2 x3 x4 x5 x6 x7, l = [x0, x1, x2, x3, x4, x5, x6, x7] := by
  obtain ⟨x0, r, rfl, h2⟩ := len_s h
  obtain ⟨x1, x2, x3, x4, x5, x6, x7, rfl⟩ := len7 h2
  exact ⟨x0, x1, x2, x3, x4, x5, x6, x7, rfl⟩
theorem len9 {α : Type} {l : List α} (h : l.length = 9) : ∃ x0 x1 x2 x3 x4 x5 x6 x7 x8, l = [x0, x1, x2, x3, x4, x5, x6, x7, x8] := by
  obtain ⟨x0, r, rfl, h2⟩ := len_s h
  obtain ⟨x1, x2, x3, x4, x5, x6, x7, x8, rfl⟩ := len8 h2
  exact ⟨x0, x1, x2, x3, x4, x5, x6, x7, x8, rfl⟩
theorem len10 {α : Type} {l : List α} (h : l.length = 10) : ∃ x0 x1 x2 x3 x4 x5 x6 x7 x8 x9, l = [x0, x1, x2, x3, x4, x5, x6, x7, x8, x9] := by
  obtain ⟨x0, r, rfl, h2⟩ := len_s h
  obtain ⟨x1, x2, x3, x4, x5, x6, x7, x8, x9, rfl⟩ := len9 h2
  exact ⟨x0, x1, x2, x3, x4, x5, x6, x7, x8, x9, rfl⟩
theorem len11 {α : Type} {l : List α} (h : l.length = 11) : ∃ x0 x1 x2 x3 x4 x5 x6 x7 x8 x9 x10, l = [x0, x1, x2, x3, x4, x5, x6, x7, x8, x9, x10] := by
  obtain ⟨x0, r, rfl, h2⟩ := len_s h
  obtain ⟨x1, x2, x3, x4, x5, x6, x7, x8, x9, x10, rfl⟩ := len10 h2
  exact ⟨x0, x1, x2, x3, x4, x5, x6, x7, x8, x9, x10, rfl⟩
theorem len12 {α : Type} {l : List α} (h : l.length = 12) : ∃ x0 x1 x2 x3 x4 x5 x6 x7 x8 x9 x10 x11, l = [x0, x1, x2, x3, x4, x5, x6, x7, x8, x9, x10, x11] := by
  obtain ⟨x0, r, rfl, h2⟩ := len_s h
  obtain ⟨x1, x2, x3, x4, x5, x6, x7, x8, x9, x10, x11, rfl⟩ := len11 h2
  exact ⟨x0, x1, x2, x3, x4, x5, x6, x7, x8, x9, x10, x11, rfl⟩
end Vx
namespace Vx
open PySem PySem.Spec PyProof.Rows L2
theorem Sep.mutnews {M : List Addr} {H0 G0 G H H' : Hp} {O : List Addr} (S : Sep M H0 G0 G H O) {L : List Addr} (x : SameXs L H H') (hL : ∀ a ∈ L, a ∈ O) (hs : ∀ a ∈ L, H' a ≠ none) (N : List Addr) (hN : ∀ a ∈ N, H a = none ∧ H' a ≠ none ∧ H0 a = none) : Sep M H0 G0 G H' (N ++ O) := by
  have S1 := S.mut x hL hs
  refine ⟨S1.base, S1.pm, S1.sG, S1.g0, S1.gn, fun a ha => ?_⟩
  rcases List.mem_append.mp ha with z | z
  · obtain ⟨h1, h2, h3⟩ := hN a z
    exact ⟨S.gfree h1, h2, .inr h3⟩
  · exact S1.ow a z
end Vx
/-! # try with several clauses that name the exception -/
namespace Ve
open PySem PySem.Spec PyProof.Rows L2
abbrev Suite := Addr → Value → Option Addr → TS
/-- what a list of clauses wishes: the first whose class fits, and its suite; none: the outer wish -/
def wCl (K : PySem.W.Frag) (Wout : WX) (D : Ends) : List (Value × Nat × Suite) → WX
  | [] => Wout
  | c :: r => wAs K c.1 c.2.1 c.2.2 (wCl K Wout D r) D
/-- one clause `except x as n: suite` -/
structure ClOk (X : Cx) (h : ExceptHandler) (c : Value × Nat × Suite) : Prop where
  ex : ∃ (x n : Str) (b₀ : Stmt) (suite : List Stmt) (np p : Pos), h = .ExceptHandler (some (.Name x np)) (some n) (b₀ :: suite) p ∧ Names X x c.1 ∧ X.N[c.2.1]? = some n ∧ X.env.kindOf n = some .local ∧
    ∀ (a : Addr) (oe : Obj) (cls : Value) (d : Option Addr) (pn : List (Addr × Obj)), Zc cls d oe → (∃ vs, oe.data = .fields vs) → PSs (X.suite a ((a, oe) :: pn)) (b₀ :: suite) (c.2.2 a cls d)
inductive ClsOk (X : Cx) : List ExceptHandler → List (Value × Nat × Suite) → Prop
  | nil : ClsOk X [] []
  | cons {h : ExceptHandler} {hs : List ExceptHandler} {c : Value × Nat × Suite} {cs : List (Value × Nat × Suite)} : ClOk X h c → ClsOk X hs cs → ClsOk X (h :: hs) (c :: cs)
theorem cl_mk {X : Cx} {x n : Str} {b₀ : Stmt} {suite : List Stmt} {np p : Pos} {cv : Value} {i : Nat} {ts : Suite} (nm : Names X x cv) (hi : X.N[i]? = some n) (hln : X.env.kindOf n = some .local)
    (hsu : ∀ (a : Addr) (oe : Obj) (cls : Value) (d : Option Addr) (pn : List (Addr × Obj)), Zc cls d oe → (∃ vs, oe.data = .fields vs) → PSs (X.suite a ((a, oe) :: pn)) (b₀ :: suite) (ts a cls d)) : ClOk X (.ExceptHandler (some (.Name x np)) (some n) (b₀ :: suite) p) (cv, i, ts) :=
  ⟨⟨x, n, b₀, suite, np, p, rfl, nm, hi, hln, hsu⟩⟩
section
variable {X : Cx} {body : List Stmt} {h₀ : ExceptHandler} {hds : List ExceptHandler} {cs : List (Value × Nat × Suite)} {pos : Pos} {tb : WX → TS} {Wout : WX}
theorem ps_try_cls (hs : X.stack = X.env :: X.outer) (hf : X.env.frame = some X.env.locals) (hN : X.N.Nodup) (tk : Takes X Wout)
    (hb : ∀ (W : WX) (pn : List (Addr × Obj)) (xe : Value → Shared → Prop), Takes (X.tr pn xe) W → PassesOwn (model X.prog X.w) X.A X.env xe → PSs (X.tr pn xe) body (tb W))
    (hh : ClsOk X (h₀ :: hds) cs) : PS X (.Try body (h₀ :: hds) [] [] pos) (fun D σ H => tb (wCl X.K Wout D cs) D σ H) := by
  refine ⟨fun pins s σ H D I h => ?_⟩
  have ok := I.ok
  have hfr : X.A.frames = some (X.env :: X.outer) := by rw [ok.frames, hs]
  refine wpAny_Try_except ?_
  let R : Flow → Shared → Prop := SP X pins D
  refine wpAny_mono ((hb (wCl X.K Wout D cs) (X.pn ++ pins) (fun e s₁ => wpAny (model X.prog X.w) X.A (noteFrame e X.env) (fun _ s₂ => wpAny (model X.prog X.w) X.A (setFlight e none) (fun _ s₃ =>
    wpAny (model X.prog X.w) X.A (handleBy e X.env (h₀ :: hds)) R X.xe s₃) X.xe s₂) X.xe s₁) (fun u s' xx => ?_) PassesOwn.looking).run [] s σ H D (I.toTry _) h) (fun f s1 hsp => ?_) (fun e s1 he => he)
  · obtain ⟨a, B, sI, pins', σ', H', cls, d, rfl, J', nb, up, sky, na, os, ag, w⟩ := xx
    have J : Inv X pins σ' H' sI := J'.ofTry ok
    have sky' : Sky B (X.env :: X.outer) a (Zc cls d) X.env.locals s'.heap := by rw [← hs]; exact sky
    show wpAny (model X.prog X.w) X.A (noteFrame (.ref a) X.env) _ _ _
    refine Sky.land Zc.steady hfr hf sky' fun h3 fl3 up3 => ?_
    have up13 := up.trans up3
    have J3 : Inv X pins σ' H' { s' with heap := h3 } := J.landed nb fl3.1 up13 os ag
    obtain ⟨oe3, vs3, he3, hz3, hd3⟩ := fl3.there
    have away : a ∉ frs (X.env :: X.outer) := fun hm => by
      obtain ⟨_, o', e', hnf⟩ := fl3.2.2.1.mem hm
      rw [he3] at e'
      cases e'
      exact hnf _ hd3
    have nL : a ≠ X.env.locals := fun z => away (List.mem_filterMap.mpr ⟨X.env, List.mem_cons_self, by rw [hf, z]⟩)
    have nF : a ∉ X.fs := fun hm => by
      obtain ⟨e, he, q⟩ := List.mem_filterMap.mp hm
      exact away (List.mem_filterMap.mpr ⟨e, List.mem_cons_of_mem _ he, q⟩)
    have S3 := J3.suite he3 hd3 na nL nF
    have each : ∀ {hs2 : List ExceptHandler} {cs2 : List (Value × Nat × Suite)}, ClsOk X hs2 cs2 → wCl X.K Wout D cs2 cls d σ' H' → wpAny (model X.prog X.w) X.A (handleBy (.ref a) X.env hs2) R X.xe { s' with heap := h3 } := by
      intro hs2 cs2 hk
      induction hk with
      | nil =>
        intro w
        refine wpAny_handleBy_nil ?_
        obtain ⟨_, _, _, oe, vs, T, oT, ts', he, _, hd, h1, _⟩ := id fl3
        unfold PySem.passOn
        refine wpAny_bind (wpAny_field he hd h1 ?_)
        rw [if_neg (show ¬ ((Value.ref T == Value.none) = true) from by simp)]
        have out : wpAny (model X.prog X.w) X.A (setFlight (.ref a) X.env.frame) (fun _ s4 => wpAny (model X.prog X.w) X.A (throw (.ref a) : Sem Flow) R X.xe s4) X.xe { s' with heap := h3 } := by
          rw [hf]
          exact HandSPX.setFlight_upZ fl3 fun h4 hh4 up4 => wpAny_throw (tk _ _ ⟨a, B, sI, pins, σ', H', cls, d, rfl, J, nb, up13.trans up4, .inr (.inr (by rw [hs]; exact hh4)), na, os, ag, w⟩)
        first
          | exact wpAny_bind (wpAny_pure (wpAny_bind out))
          | exact wpAny_bind out
      | cons hc _ ih =>
        intro w
        obtain ⟨x, n, b₀, suite, np, p, rfl, nm, hi, hln, hsu⟩ := hc.ex
        obtain ⟨b, hb1, yes, no⟩ := w
        refine wpAny_handleBy_cons (codeAny_handlers_test ?_) (by intro q; cases q)
        have LM := PySem.W.exm_one (M := model X.prog X.w) (J3.kIn) (show PySem.W.Looks (model X.prog X.w) h3 (typeOf (.ref a)) cls from fun A Q E s k q => wpAny_typeOf_ref (k _ _ he3) (by rw [hz3.1]; exact q)) hb1
        have named : ∀ {Q : Value → Shared → Prop} {E : Value → Shared → Prop}, Q _ { s' with heap := h3 } → wpAny (model X.prog X.w) (X.A.mark (some (.ref a))) (eval (.Name x np) X.env) Q E { s' with heap := h3 } := fun {Q E} q => by
          obtain ⟨hg, hdbg, hm | ⟨hm, hv, hnn⟩⟩ := nm
          · exact ld_glob (X := X.suite a ((a, oe3) :: (X.pn ++ pins))) S3 hg hm q hdbg
          · exact ld_blt (X := X.suite a ((a, oe3) :: (X.pn ++ pins))) S3 hg hm hv q hnn hdbg
        refine named (LM.here ?_)
        cases b with
        | false => exact ih (no rfl)
        | true =>
          refine codeAny_handlers_suite_as ?_
          refine HandSPX.lands_againZ fl3 fun h4 fl4 up4 => ?_
          have J4 : Inv X pins σ' H' { s' with heap := h4 } := J.landed nb fl4.1 (up13.trans up4) os ag
          obtain ⟨oe4, vs4, he4, hz4, hd4⟩ := fl4.there
          have S4 := J4.suite he4 hd4 na nL nF
          refine store_ok (X := X.suite a ((a, oe4) :: (X.pn ++ pins))) (v := .ref a) S4 hN hi (.inl hln) rfl (fun s5 S5 => ?_) (.inr hln)
          have fin : ∀ {σ6 : L2.St} {H6 : Hp} {s6 : Shared} {Q : Shared → Prop}, Inv (X.suite a ((a, oe4) :: (X.pn ++ pins))) [] σ6 H6 s6 → (∀ s7, Inv X pins (σ6.set _ none) H6 s7 → Q s7) →
              wpAny (model X.prog X.w) X.A (do bindName X.env n .none; unbindBehindTheSuite X.env n p) (fun _ s7 => Q s7) X.xe s6 := fun S6 hq => gone_ok (S6.unsuite ok) hN hi hln hq
          refine wpAny_mono ((hsu a oe4 cls d (X.pn ++ pins) hz4 ⟨_, hd4⟩).run [] s5 _ H' _ S5 (yes rfl a na)) (fun f s6 hsp => ?_) (fun _ _ z => False.elim z)
          cases f with
          | ret u =>
            obtain ⟨v6, σ6, H6, S6, r6, q6⟩ := hsp
            exact fin S6 fun s7 J7 => ⟨_, _, _, J7, r6, q6⟩
          | next =>
            obtain ⟨σ6, H6, S6, q6⟩ := hsp
            exact fin S6 fun s7 J7 => ⟨_, _, J7, q6⟩
          | brk =>
            obtain ⟨σ6, H6, S6, q6⟩ := hsp
            exact fin S6 fun s7 J7 => ⟨_, _, J7, q6⟩
          | cont =>
            obtain ⟨σ6, H6, S6, q6⟩ := hsp
            exact fin S6 fun s7 J7 => ⟨_, _, J7, q6⟩
    exact each hh w
  · cases f with
    | ret u =>
      obtain ⟨v, σ', H', J', r, q⟩ := hsp
      exact ⟨v, σ', H', J'.ofTry ok, r, q⟩
    | next =>
      obtain ⟨σ', H', J', q⟩ := hsp
      exact wpAny_execs_nil ⟨σ', H', J'.ofTry ok, q⟩
    | brk =>
      obtain ⟨σ', H', J', q⟩ := hsp
      exact ⟨σ', H', J'.ofTry ok, q⟩
    | cont =>
      obtain ⟨σ', H', J', q⟩ := hsp
      exact ⟨σ', H', J'.ofTry ok, q⟩
end
end Ve
namespace Vx
open PySem PySem.Spec PyProof.Rows L2
theorem exm_mk0 {K : PySem.W.Frag} {S C : Addr} (h1 : PySem.W.subIn K (.ref C) (.type "BaseException") = some true) (h0 : (Value.ref S == Value.ref C) = false) (h2 : PySem.W.isClsIn K C = true) (h3 : PySem.W.typeIn K (.ref C) = some (.type "type")) (h4 : PySem.W.subIn K (.ref S) (.ref C) = some false) :
    PySem.W.exmOne K (.ref S) (.ref C) = some false := by
  unfold PySem.W.exmOne
  rw [h1]
  have k := kit_mk0 (K := K) h0 h2 h3 h4
  unfold PySem.W.kitOne at k
  simpa [h0] using k
theorem Sep.mutstep {M : List Addr} {H0 G0 G H H' : Hp} {O : List Addr} (S : Sep M H0 G0 G H O) {L : List Addr} (x : SameXs L H H') (hL : ∀ a ∈ L, a ∈ O) (hs : ∀ a ∈ L, H' a ≠ none) {G' : Hp} (eG : Same G G') (sG : Same G' H') (hn : ∀ b, H b ≠ none → G b = none → G' b = none) : Sep M H0 G0 G' H' O := by
  have S1 := S.mut x hL hs
  exact ⟨S1.base, S1.pm, sG, S.g0.trans eG, fun b hb gb => hn b (fun z => hb (S.free z)) (S.gn b hb gb), fun a ha => ⟨hn a (S.ow a ha).2.1 (S.ow a ha).1, (S1.ow a ha).2⟩⟩
end Vx
/-! # trees that are changed from outside; trees within objects -/
namespace Vx
open PySem PySem.Spec PyProof.Rows L2
section
variable {M : List Addr} {H0 G0 G H H' : Hp} {O : List Addr}
/-- a change of what is owned, by which trees grow and data come to stay -/
theorem Sep.mutgrow (S : Sep M H0 G0 G H O) {G' : Hp} {L : List Addr} (x : SameXs L H H') (hL : ∀ a ∈ L, a ∈ O) (hs : ∀ a ∈ L, H' a ≠ none) (eG : Same G G') (sG : Same G' H') (hn : ∀ b, H b ≠ none → G b = none → G' b = none)
    {O' : List Addr} (hO : ∀ b ∈ O', b ∈ O ∨ (H b = none ∧ G' b = none ∧ H' b ≠ none)) : Sep M H0 G0 G' H' O' := by
  have S1 := S.mut x hL hs
  have there : ∀ b, H b ≠ none → H' b ≠ none := fun b h => by
    by_cases hb : b ∈ L
    · exact hs b hb
    · cases q : H b with
      | none => exact absurd q h
      | some o => exact some_ne (x b o q hb)
  refine ⟨S1.base, S1.pm, sG, S.g0.trans eG, fun b hb gb => hn b (fun z => hb (S.free z)) (S.gn b hb gb), fun b hb => ?_⟩
  rcases hO b hb with h | ⟨h1, h2, h3⟩
  · obtain ⟨g, h, m⟩ := S.ow b h
    exact ⟨hn b h g, there b h, m⟩
  · exact ⟨h2, h3, .inr (S.free h1)⟩
/-- what is borrowed is none of what a callee may change -/
theorem Sep.bhide (S : Sep M H0 G0 G H O) {L : List Addr} (h : ∀ a ∈ L, a ∈ O) : Same (hideL M H0) (hideL L H) := fun b o e => by
  rw [hideL_out fun z => b_ne e S (h b z) rfl]
  exact S.bM b o e
end
theorem grown_ne {H : Hp} {L F : List Addr} {x : Addr} (s : ∀ b ∈ L, b ∈ F ∨ H b = none) (n : ∀ b ∈ F, b ≠ x) (h : H x ≠ none) : ∀ b ∈ L, b ≠ x := fun b hb z => by
  rcases s b hb with q | q
  · exact n b q z
  · exact h (z ▸ q)
theorem grown_nl {H : Hp} {L F L2 : List Addr} (s : ∀ b ∈ L, b ∈ F ∨ H b = none) (n : ∀ b ∈ F, b ∉ L2) (h : ∀ b ∈ L2, H b ≠ none) : ∀ b ∈ L, b ∉ L2 := fun b hb z => by
  rcases s b hb with q | q
  · exact n b q z
  · exact h b z q
section
variable {α : Type} {f : α → PyData} {G H : Hp} {a : Addr}
theorem rp_listAt {xs : List α} (r : Rp H (.ref a) (encL f xs)) : ∃ vs, H a = some (.lst vs) ∧ RpAll H vs (xs.map f) := by
  obtain ⟨b, vs, e, h, d⟩ := rp_list r
  cases e
  exact ⟨vs, h, d⟩
theorem OwAll.frzs : ∀ {vs : List V} {xs : List α}, RpAll G vs (xs.map f) → OwAll G H [] vs (xs.map (oF f))
  | _, [], .nil => .nil
  | _, _ :: _, .cons r t => .cons (L1 := []) (L2 := []) (.frz r) (OwAll.frzs t) (fun _ z => nomatch z)
theorem OwAll.toFrzs : ∀ {L : List Addr} {vs : List V} {xs : List α}, OwAll G H L vs (xs.map (oF f)) → RpAll G vs (xs.map f)
  | _, _, [], .nil => .nil
  | _, _, x :: xs, .cons a r _ => by
    cases a with
    | frz z => exact .cons z (OwAll.toFrzs r)
end
theorem rp_dgetI {H : Hp} {v : V} {d : PyData} {k : Int} (g : (0 : Int) ≤ k ∧ dHasT d (Int.toNat k) = true) (r : Rp H v d) : ∃ a vs u, v = .ref a ∧ H a = some (.tup vs) ∧ atI vs k = some u ∧ Rp H u (dGet d (Int.toNat k)) := by
  obtain ⟨a, vs, u, e, h, x, y⟩ := rp_dget g.2 r
  rw [Int.toNat_of_nonneg g.1] at x
  exact ⟨a, vs, u, e, h, x, y⟩
/-! ### what may be None -/
def OptF {α : Type} (G hp : Hp) (v : V) (x : Option (List α)) (f : α → PyData) : Prop := match x with
  | none => v = .non
  | some xs => ∃ a vs, v = .ref a ∧ hp a = some (.lst vs) ∧ RpAll G vs (xs.map f)
def optE {α β : Type} (x : Option α) (a : Rx β) (b : α → Rx β) : Rx β := match x with
  | none => a
  | some y => b y
theorem cW_optN {α β : Type} {a : Rx β} {b : α → Rx β} {K : β → Prop} {E : Nat → Prop} (h : cW (optE none a b) K E) : cW a K E := h
theorem cW_optS {α β : Type} {y : α} {a : Rx β} {b : α → Rx β} {K : β → Prop} {E : Nat → Prop} (h : cW (optE (some y) a b) K E) : cW (b y) K E := h
/-! ### sorted(list of ints) -/
def insI (x : Int) : List Int → List Int
  | [] => [x]
  | y :: r => if x ≤ y then x :: y :: r else y :: insI x r
def sortL (xs : List Int) : List Int := xs.foldr insI []
theorem insI_perm {x : Int} : ∀ {l : List Int}, (insI x l).Perm (x :: l)
  | [] => .refl _
  | y :: r => by
    unfold insI
    split
    · exact .refl _
    · exact ((insI_perm (l := r)).cons y).trans (.swap x y r)
theorem sortL_perm : ∀ l : List Int, (sortL l).Perm l
  | [] => .refl _
  | x :: r => (insI_perm (l := sortL r)).trans ((sortL_perm r).cons x)
theorem insI_pw {x : Int} : ∀ {l : List Int}, l.Pairwise (· ≤ ·) → (insI x l).Pairwise (· ≤ ·)
  | [], _ => List.pairwise_singleton _ _
  | y :: r, h => by
    obtain ⟨h1, h2⟩ := List.pairwise_cons.mp h
    unfold insI
    split
    · rename_i c
      refine List.pairwise_cons.mpr ⟨fun z hz => ?_, h⟩
      rcases List.mem_cons.mp hz with rfl | hz
      · exact c
      · exact Int.le_trans c (h1 z hz)
    · rename_i c
      refine List.pairwise_cons.mpr ⟨fun z hz => ?_, insI_pw h2⟩
      rcases List.mem_cons.mp ((insI_perm (l := r)).mem_iff.mp hz) with rfl | hz
      · omega
      · exact h1 z hz
theorem sortL_pw : ∀ l : List Int, (sortL l).Pairwise (· ≤ ·)
  | [] => List.Pairwise.nil
  | _ :: r => insI_pw (sortL_pw r)
theorem sortL_of {ns ks : List Int} (p : ns.Perm ks) (h : ns.Pairwise (· ≤ ·)) : ns = sortL ks :=
  (p.trans (sortL_perm ks).symm).eq_of_pairwise (fun _ _ _ _ a b => Int.le_antisymm a b) h (sortL_pw ks)
def rSortL (K : PySem.W.Frag) : List V → Hp → VK → Prop := fun xs H Q => ∃ (a : Addr) (ns : List Int), xs = [.ref a] ∧ SqL K H a (ns.map V.int) ∧ ∀ p, H p = none → Q (.ref p) (upd H p (.lst ((sortL ns).map V.int)))
theorem cr_sortL {X : Cx} {K : PySem.W.Frag} (hK : X.K = K := by rfl) : CallR X (.builtin "sorted") (rSortL K) := by
  subst hK
  intro pins s σ H vs us Q I r h
  obtain ⟨a, ns, e, hs, q⟩ := h
  refine cr_sortedI pins s σ H vs us Q I r ⟨a, ns, e, hs, fun ns' p pm pw hp => ?_⟩
  rw [sortL_of pm pw]
  exact q p hp
/-! ### trees given away, put together -/
theorem taken_ne1 {H : Hp} {F : List Addr} {a x : Addr} (s : a ∈ F ∨ H a = none) (n : ∀ b ∈ F, b ≠ x) (h : H x ≠ none) : a ≠ x := fun z => s.elim (fun q => n a q z) (fun q => h (z ▸ q))
theorem taken_ne {H : Hp} {F L2 : List Addr} {a : Addr} (s : a ∈ F ∨ H a = none) (n : ∀ b ∈ F, b ∉ L2) (h : ∀ b ∈ L2, H b ≠ none) : a ∉ L2 := fun z => s.elim (fun q => n a q z) (fun q => h a z q)
theorem taken_nl {H : Hp} {F L2 : List Addr} {a : Addr} (s : a ∈ F ∨ H a = none) (n : ∀ b ∈ F, b ∉ L2) (h : ∀ b ∈ L2, H b ≠ none) : ∀ b ∈ L2, b ≠ a := fun b hb z => taken_ne s n h (z ▸ hb)
theorem cat_lenW {α β : Type} {f : α → Dt} {g : β → Dt} {G H : Hp} {L1 L2 : List Addr} {vs ws : List V} {xs : List α} {ys : List β} (a : OwAll G H L1 vs (xs.map f)) (b : OwAll G H L2 ws (ys.map g)) (h : xs.length + ys.length ≤ 1000000) : vs.length + ws.length ≤ sizeLine := by
  rw [a.lenM, b.lenM]
  exact smallE h
theorem app_trees {α : Type} {f : α → Dt} {G H : Hp} {L1 L2 : List Addr} {vs ws : List V} {xs ys : List α} (zs : List α) (e : zs = xs ++ ys) (a : OwAll G H L1 vs (xs.map f)) (b : OwAll G H L2 ws (ys.map f)) (d : ∀ c ∈ L1, c ∉ L2) : OwAll G H (L1 ++ L2) (vs ++ ws) (zs.map f) := by
  rw [e, List.map_append]
  exact OwAll.app b a d
/-- the item of a turn is the part at its index -/
theorem item_at {vs : List V} {i : Nat} {k : Int} {x v : V} (h1 : atI vs k = some v) (hj : vs[i]? = some x) (hk : k = 0 + (i : Int)) : x = v := by
  have hl := get_len hj
  have e : atI vs k = some x := by
    unfold atI ixN
    rw [if_pos (by omega), if_pos (by omega)]
    show vs[k.toNat]? = some x
    rw [show k.toNat = i by omega, hj]
  rw [e] at h1
  exact Option.some.inj h1
theorem RpAll.at_ix {α : Type} [Inhabited α] {f : α → PyData} {G : Hp} {vs : List V} {xs : List α} {k : Int} {v : V} (d : RpAll G vs (xs.map f)) (g : -(xs.length : Int) ≤ k ∧ k < xs.length) (h : atI vs k = some v) : Rp G v (f (itD xs k)) := by
  obtain ⟨v', h1, h3⟩ := RpAll.ixD (k := k) d g
  rw [h] at h1
  cases h1
  exact h3
theorem atI_same {vs : List V} {k : Int} {v u : V} (h1 : atI vs k = some v) (h2 : atI vs k = some u) : v = u := by
  rw [h1] at h2
  exact Option.some.inj h2
theorem setL_g {α : Type} {xs : List α} {k j : Int} {y : α} (g : -(xs.length : Int) ≤ k ∧ k < xs.length) : -((setL xs j y).length : Int) ≤ k ∧ k < (setL xs j y).length := by
  have : (setL xs j y).length = xs.length := by
    unfold setL
    rw [List.length_set]
  rw [this]
  exact g
theorem Ow.atList {α : Type} {f : α → Dt} {G H : Hp} {L1 : List Addr} {b : Addr} {xs : List α} (w : Ow G H L1 (.ref b) (oL f xs)) : ∃ vs Lb, L1 = b :: Lb ∧ H b = some (.lst vs) ∧ OwAll G H Lb vs (xs.map f) ∧ ∀ c ∈ Lb, c ≠ b := by
  obtain ⟨b2, vs, Lb, e, l, h, wb, nb⟩ := Ow.toList w
  cases e
  exact ⟨vs, Lb, l, h, wb, nb⟩
theorem part_at {α : Type} {f : α → PyData} {G H : Hp} {b : Addr} {vs : List V} {xs : List α} (r : Rp G (.ref b) (encL f xs)) (s : Same G H) (h : H b = some (.lst vs)) : G b = some (.lst vs) ∧ RpAll G vs (xs.map f) := by
  obtain ⟨vs2, h2, d⟩ := rp_listAt r
  have z := (s b _ h2).symm.trans h
  cases z
  exact ⟨h2, d⟩
theorem cat_len2 {α β : Type} {f : α → PyData} {g : β → PyData} {G G2 : Hp} {vs ws : List V} {xs : List α} {ys : List β} (a : RpAll G vs (xs.map f)) (b : RpAll G2 ws (ys.map g)) (h : xs.length + ys.length ≤ 1000000) : vs.length + ws.length ≤ sizeLine := by
  rw [a.len, b.len, List.length_map, List.length_map]
  exact smallE h
end Vx
namespace Vx
open PySem PySem.Spec PyProof.Rows L2
/-! ### a[lo:hi] = b, lists, within the bounds -/
def sSliceSet (td : TE) (tl th : TO) (tv : TE) : TS := fun D σ H => tv σ H fun v H1 => td σ H1 fun x H2 => tl σ H2 fun l H3 => th σ H3 fun u H4 =>
  ∃ (a b : Addr) (xs ys : List V) (lo hi : Int), x = .ref a ∧ v = .ref b ∧ l = some lo ∧ u = some hi ∧ H4 a = some (.lst xs) ∧ H4 b = some (.lst ys) ∧ a ≠ b ∧ 0 ≤ lo ∧ lo ≤ hi ∧ hi ≤ xs.length ∧ xs.length + ys.length ≤ sizeLine ∧
    D.nx σ (upd H4 a (.lst (xs.take lo.toNat ++ ys ++ xs.drop hi.toNat)))
theorem ps_sset {X : Cx} {o lo hi value : Expr} {p2 pos' pos : Pos} {td tv : TE} {tl th : TO} (ho : PE X o td) (hl : PO X (some lo) tl) (hu : PO X (some hi) th) (hv : PE X value tv)
    (hs : swapsWith value (some (.Subscript o (.Slice (some lo) (some hi) none p2) pos')) pos.line X.env = pure false) :
    PS X (.Assign [.Subscript o (.Slice (some lo) (some hi) none p2) pos'] value pos) (sSliceSet td tl th tv) := by
  refine ⟨fun pins s σ H D I h => ?_⟩
  refine wpAny_Assign_Subscript (thn (hv.run pins s σ H _ I h) fun r s1 ⟨v, H1, I1, rv, q1⟩ => thn (ho.run pins s1 σ H1 _ I1 q1) fun u s2 ⟨x, H2, I2, rx, q2⟩ => ?_) hs
  refine wpAny_Slice (thn (hl.run pins s2 σ H2 _ I2 q2) fun vl s3 ⟨l, H3, I3, pl, q3⟩ => thn (hu.run pins s3 σ H3 _ I3 q3) fun vu s4 ⟨z, H4, I4, pu, a, b, xs, ys, i, j, ex, ev, el, ez, ha, hb, hne, h0, h1, h2, h3, q⟩ => ?_)
  subst ex ev el ez
  rw [evalPart_none]
  refine wpAny_pure ?_
  obtain rfl : u = Value.ref a := rx
  obtain rfl : r = Value.ref b := rv
  have I5 : Inv X pins σ H4 { s4 with heap := s4.heap.push { cls := .type "slice", data := .fields #[vl, vu, .none] } } := I4.kept (t' := s4.toks) fun b ob q => Heap.get?_push_of_some _ q
  have rl : RelV (.int i) vl := by
    cases pl
    exact ⟨_, rfl⟩
  have ru : RelV (.int j) vu := by
    cases pu
    exact ⟨_, rfl⟩
  exact set_slice I5 ha hb hne (Heap.IsSliceOf.new ..) rl ru h0 h1 h2 h3 fun s' I' => ⟨σ, _, I', q⟩
section
variable {G H : Hp}
theorem OwAll.split : ∀ {L : List Addr} {vs : List V} {ds : List Dt} (k : Nat), OwAll G H L vs ds → ∃ L1 L2, (∀ b ∈ L1, b ∈ L) ∧ (∀ b ∈ L2, b ∈ L) ∧ (∀ b ∈ L1, b ∉ L2) ∧ OwAll G H L1 (vs.take k) (ds.take k) ∧ OwAll G H L2 (vs.drop k) (ds.drop k)
  | L, _, _, 0, w => by
    refine ⟨[], L, by simp, fun _ z => z, by simp, ?_, ?_⟩
    · exact .nil
    · exact w
  | _, _, _, _ + 1, .nil => by
    refine ⟨[], [], by simp, by simp, by simp, ?_, ?_⟩
    · exact .nil
    · exact .nil
  | _, _, _, k + 1, .cons (L1 := La) (L2 := Lb) a r n => by
    obtain ⟨L1, L2, h1, h2, h3, w1, w2⟩ := OwAll.split k r
    refine ⟨La ++ L1, L2, fun b hb => ?_, fun b hb => List.mem_append_right _ (h2 b hb), fun b hb z => ?_, .cons a w1 (fun b hb z => n b hb (h1 b z)), w2⟩
    · rcases List.mem_append.mp hb with q | q
      · exact List.mem_append_left _ q
      · exact List.mem_append_right _ (h1 b q)
    · rcases List.mem_append.mp hb with q | q
      · exact n b q (h2 b z)
      · exact h3 b q z
/-- what a tree holds behind a slice store -/
theorem OwAll.splice {α : Type} {f : α → Dt} {L Lb : List Addr} {vs ws : List V} {xs ys : List α} {a c : Nat} (w : OwAll G H L vs (xs.map f)) (v : OwAll G H Lb ws (ys.map f)) (h : a ≤ c) (d : ∀ b ∈ Lb, b ∉ L) :
    ∃ L', (∀ b ∈ L', b ∈ L ++ Lb) ∧ OwAll G H L' (vs.take a ++ ws ++ vs.drop c) ((xs.take a ++ ys ++ xs.drop c).map f) := by
  obtain ⟨L1, L2, h1, h2, h3, w1, w2⟩ := OwAll.split a w
  obtain ⟨M1, M2, k1, k2, k3, u1, u2⟩ := OwAll.split (c - a) w2
  rw [List.drop_drop, List.drop_drop, show a + (c - a) = c by omega] at u2
  refine ⟨(L1 ++ Lb) ++ M2, fun b hb => ?_, ?_⟩
  · rcases List.mem_append.mp hb with q | q
    · rcases List.mem_append.mp q with q | q
      · exact List.mem_append_left _ (h1 b q)
      · exact List.mem_append_right _ q
    · exact List.mem_append_left _ (h2 b (k2 b q))
  · rw [List.map_append, List.map_append, List.map_take, List.map_drop]
    refine OwAll.app u2 (OwAll.app v w1 fun b hb z => d b z (h1 b hb)) fun b hb z => ?_
    rcases List.mem_append.mp hb with q | q
    · exact h3 b q (k2 b z)
    · exact d b q (h2 b (k2 b z))
def spliceL {α : Type} (xs : List α) (lo hi : Int) (ys : List α) : List α := xs.take lo.toNat ++ ys ++ xs.drop hi.toNat
theorem slc_hi {α : Type} {f : α → Dt} {L : List Addr} {vs : List V} {xs : List α} {hi : Int} (w : OwAll G H L vs (xs.map f)) (g : hi ≤ ((xs.length : Nat) : Int)) : hi ≤ ((vs.length : Nat) : Int) := by
  rw [w.lenM]
  exact g
theorem OwAll.spliceM {α : Type} {f : α → Dt} {L Lb : List Addr} {vs ws : List V} {xs ys : List α} {lo hi : Int} (w : OwAll G H L vs (xs.map f)) (v : OwAll G H Lb ws (ys.map f)) (g : (0 : Int) ≤ lo ∧ lo ≤ hi ∧ hi ≤ ((xs.length : Nat) : Int) ∧ xs.length + ys.length ≤ 1000000) (d : ∀ b ∈ Lb, b ∉ L) :
    ∃ L', (∀ b ∈ L', b ∈ L ++ Lb) ∧ OwAll G H L' (vs.take lo.toNat ++ ws ++ vs.drop hi.toNat) ((spliceL xs lo hi ys).map f) := OwAll.splice w v (by omega) d
end
end Vx
namespace Vx
open PySem PySem.Spec PyProof.Rows L2
/-! ### range with a step up -/
def rngP (lo c : Int) (n : Nat) : List Int := (List.range n).map fun (j : Nat) => lo + (j : Int) * c
theorem rngP_get {lo c : Int} {n i : Nat} (h : i < n) : (rngP lo c n)[i]? = some (lo + (i : Int) * c) := by
  unfold rngP
  rw [List.getElem?_map, List.getElem?_range h] <;> rfl
theorem rngP_len (lo c : Int) (n : Nat) : (rngP lo c n).length = n := by
  unfold rngP
  rw [List.length_map, List.length_range]
def stepN (lo hi c : Int) : Nat := if lo < hi then ((hi - lo - 1) / c + 1).toNat else 0
theorem rangeSize_up {a b c : Int} (hc : 0 < c) : Builtin.Range.rangeSize a b c = (stepN a b c : Int) := by
  unfold Builtin.Range.rangeSize stepN
  rw [if_pos (show c > 0 from hc)]
  by_cases h : a < b
  · rw [if_pos h, if_pos h]
    have : 0 ≤ (b - a - 1) / c := Int.ediv_nonneg (by omega) (by omega)
    omega
  · rw [if_neg h, if_neg h]
    rfl
theorem RgC.pos {a b c : Int} (h : (-(2 ^ 61) ≤ a ∧ a < 2 ^ 61) ∧ (-(2 ^ 61) ≤ b ∧ b < 2 ^ 61) ∧ 0 < c ∧ c < 1073741824) : RgC a b c (stepN a b c) := by
  obtain ⟨⟨ha, ha'⟩, ⟨hb, hb'⟩, hc, hc'⟩ := h
  refine ⟨by omega, by omega, ?_, rangeSize_up hc⟩
  have e1 := rangeSize_up (a := a) (b := b) hc
  have e2 : (stepN a b c : Int) ≤ 2 ^ 62 := by
    unfold stepN
    split
    · have := Int.ediv_le_self (a := b - a - 1) c (by omega)
      have : 0 ≤ (b - a - 1) / c := Int.ediv_nonneg (by omega) (by omega)
      omega
    · show (0 : Int) ≤ _
      omega
  have e4 : (0 : Int) ≤ (stepN a b c : Int) := by omega
  unfold Builtin.Range.small
  rw [e1]
  generalize (stepN a b c : Int) = n at e2 e4 ⊢
  simp only [Builtin.Range.rangeFitsLong, Bool.and_eq_true, Bool.or_eq_true, decide_eq_true_eq, beq_iff_eq]
  rw [if_pos (show c > 0 from hc)]
  simp only [Bool.and_eq_true, decide_eq_true_eq]
  omega
end Vx
namespace Vx
open PySem PySem.Spec PyProof.Rows L2
/-! ### a[lo:hi] = (x, ..), numbers -/
section
variable {prog : Program} {w : World} {A : Around} {E : Value → Shared → Prop} {s : Shared}
theorem setItem_sliceT {l b sl : Addr} {items new : Array Value} {n n2 : Nat} {vl vu : Value} {a c : Nat} {Q : Unit → Shared → Prop}
    (e : s.heap.get? l = some { cls := .type "list", data := .seq items n }) {o2 : Obj} (e2 : s.heap.get? b = some o2) (c2 : o2.cls = .type "tuple") (d2 : o2.data = .seq new n2) (hne : l ≠ b)
    (hs : s.heap.IsSliceOf sl vl vu .none) (pl : IsPart vl (some (a : Int))) (pu : IsPart vu (some (c : Int))) (hac : a ≤ c) (hc : c ≤ items.size)
    (hsz : items.size + new.size ≤ sizeLine) (h : Q () { s with heap := s.heap.update l (Obj.mapSeq fun xs => xs.extract 0 a ++ new ++ xs.extract c xs.size) }) :
    wpAny (model prog w) A (setItem (.ref l) (.ref sl) (.ref b)) Q E s := by
  have hl : s.heap.IsList l items := PySem.IsL.isList e
  have hTb : s.TypeIs (.ref b) "tuple" := ⟨_, e2, c2⟩
  obtain ⟨os, hos, hcs, hds⟩ := id hs
  have hTs : s.TypeIs (.ref sl) "slice" := ⟨os, hos, hcs⟩
  have hstep : ¬ ((rawPart none == rawInt 0) = true) := Bool.false_ne_true
  have hsame : Builtin.List.listSameRef (.ref l) (.ref b) = false := by
    unfold Builtin.List.listSameRef
    exact beq_eq_false_iff_ne.mpr hne
  have hmax : (max (a : Int) (c : Int)).toNat = c := by omega
  have hz' : ((fun xs : Array Value => xs.extract 0 a ++ new ++ xs.extract c xs.size) items).size ≤ sizeLine + 1 := by
    simp only [Array.size_append, Array.size_extract]
    omega
  unfold setItem
  try with_reducible refine wpAny_holding ?_
  first | refine wpAny_bind (wpAny_pure ?_) | skip
  refine wpAny_bind (wpAny_sequenceKey hl.typeIs (by decide) ?_)
  refine wpAny_bind (wpAny_callSpecial?_slot (name := Str.ofString "__setitem__") hl.typeIs slot_list_setitem
    (wpAny_call_entry slot_list_setitem hl.typeIs entry_list_setitem ?_ (args_list_setitem _ _ _)))
  show wpAny _ _ (Builtin.List.listSubscript? (.ref sl) >>= _) _ _ s
  refine wpAny_bind ?_
  unfold Builtin.List.listSubscript?
  refine wpAny_bind (wpAny_specialOf hTs slice_no_index ?_)
  simp only [Option.isNone_none, if_true]
  refine wpAny_pure ?_
  show wpAny _ _ (typeOf (.ref sl) >>= _) _ _ s
  refine wpAny_bind (wpAny_typeOf hTs ?_)
  first
    | rw [if_neg (by decide)]
    | refine PySem.W.KFB.if_not (by decide) ?_
  rw [listSliceParts_eq]
  refine wpAny_bind (wpAny_bind (wpAny_field hos hds (x := .none) rfl (wpAny_bind (wpAny_listPart .none ?_))))
  rw [if_neg hstep]
  refine wpAny_bind (wpAny_field hos hds (x := vl) rfl (wpAny_bind (wpAny_listPart pl ?_)))
  refine wpAny_bind (wpAny_field hos hds (x := vu) rfl (wpAny_bind (wpAny_listPart pu (wpAny_pure ?_))))
  first
    | simp only [hsame, Bool.false_eq_true, if_false]
    | refine PySem.W.KFB.if_not hsame ?_
    | (dsimp only
       rw [if_neg (by rw [hsame]; exact Bool.false_ne_true)])
  refine wpAny_bind (m := Builtin.List.listAllItems (.ref b) "must assign iterable to extended slice") ?_
  unfold Builtin.List.listAllItems
  refine wpAny_bind (wpAny_typeOf hTb ?_)
  first
    | refine PySem.W.KFB.if_so (by decide) ?_
    | rw [if_pos (by decide)]
    | simp only [beq_self_eq_true, Bool.true_or, if_true]
  unfold Builtin.List.listItems
  refine wpAny_bind (wpAny_seqItems e2 d2 (wpAny_pure ?_))
  refine wpAny_bind (wpAny_bind (wpAny_seqItems e rfl (wpAny_pure ?_)))
  refine wpAny_bind (wpAny_of_eq ((sliceIndices_raw (some (a : Int)) (some (c : Int)) none items.size (by simp)).trans (congrArg (pure : Int × Int × Int → Sem (Int × Int × Int)) (bounds_run hac hc))) ?_)
  show wpAny _ _ (if ((1 : Int) == 1) = true then _ else _) _ _ s
  rw [if_pos (by decide)]
  refine wpAny_bind (wpAny_rule ?_)
  first
    | simp only [notLongL hsz, Bool.false_eq_true, if_false]
    | refine PySem.W.KFB.if_not (notLongL hsz) ?_
  first | refine wpAny_bind (wpAny_pure ?_) | skip
  show wpAny _ _ (updateSeq l (fun xs => xs.extract 0 ((a : Int)).toNat ++ new ++ xs.extract (max (a : Int) (c : Int)).toNat xs.size) >>= _) _ _ s
  rw [hmax, Int.toNat_natCast]
  refine wpAny_bind (wpAny_updateSeq (hz := Nat.le_trans (Nat.le_add_right _ _) hsz) (_hz' := hz') e rfl ?_)
  refine wpAny_bind (wpAny_letGo ?_)
  first
    | exact wpAny_bind (wpAny_pure (wpAny_pure ⟨.none, rfl, wpAny_pure h⟩))
    | exact wpAny_pure ⟨.none, rfl, wpAny_pure h⟩
end
section
variable {X : Cx}
theorem set_sliceT {pins : List (Addr × Obj)} {s : Shared} {σ : L2.St} {H : Hp} {l b sl : Addr} {xs ys : List V} {a c : Int} {vl vu : Value} {Q : Unit → Shared → Prop} (I : Inv X pins σ H s)
    (hH : H l = some (.lst xs)) (hB : SqT X.K H b ys) (hs : s.heap.IsSliceOf sl vl vu .none) (ra : RelV (.int a) vl) (rc : RelV (.int c) vu) (h0 : 0 ≤ a) (hac : a ≤ c) (hc : c ≤ xs.length)
    (hz : xs.length + ys.length ≤ sizeLine) (h : ∀ s', Inv X pins σ (upd H l (.lst (xs.take a.toNat ++ ys ++ xs.drop c.toNat))) s' → Q () s') :
    wpAny (model X.prog X.w) X.A (setItem (.ref l) (.ref sl) (.ref b)) Q X.xe s := by
  obtain ⟨ta, rfl⟩ := ra
  obtain ⟨tc, rfl⟩ := rc
  obtain ⟨z, its, n, r, hl, e⟩ := I.lstM hH
  obtain ⟨its2, r2, p2, _⟩ := I.tuple hB
  obtain ⟨o2, e2, c2, n2, d2⟩ := p2
  obtain ⟨a', rfl⟩ := Int.eq_ofNat_of_zero_le h0
  obtain ⟨c', rfl⟩ := Int.eq_ofNat_of_zero_le (Int.le_trans h0 hac)
  simp only [Int.toNat_natCast] at h
  have hne : l ≠ b := fun z => by
    subst z
    rw [e] at e2
    rw [← Option.some.inj e2] at c2
    simp at c2
  have hl2 := r2.length
  refine setItem_sliceT (a := a') (c := c') e e2 c2 d2 hne hs (.int _ _) (.int _ _) (by omega) (by rw [List.size_toArray]; omega) (by rw [List.size_toArray, List.size_toArray]; omega) (h _ ?_)
  refine I.lset (its' := its.take a' ++ its2 ++ its.drop c') (t' := s.toks) hH e ?_ (Vals.append (Vals.append (r.take _) r2) (r.drop _)) ?_
  · exact splice_eq its its2 a' c'
  · rw [List.length_append, List.length_append, List.length_take, List.length_drop]
    omega
end
/-- a[lo:hi] = (x, ..) -/
def sSliceSetT (K : PySem.W.Frag) (td : TE) (tl th : TO) (tv : TE) : TS := fun D σ H => tv σ H fun v H1 => td σ H1 fun x H2 => tl σ H2 fun l H3 => th σ H3 fun u H4 =>
  ∃ (a b : Addr) (xs ys : List V) (lo hi : Int), x = .ref a ∧ v = .ref b ∧ l = some lo ∧ u = some hi ∧ H4 a = some (.lst xs) ∧ SqT K H4 b ys ∧ 0 ≤ lo ∧ lo ≤ hi ∧ hi ≤ xs.length ∧ xs.length + ys.length ≤ sizeLine ∧
    D.nx σ (upd H4 a (.lst (xs.take lo.toNat ++ ys ++ xs.drop hi.toNat)))
theorem ps_ssetT {X : Cx} {K : PySem.W.Frag} {o lo hi value : Expr} {p2 pos' pos : Pos} {td tv : TE} {tl th : TO} (ho : PE X o td) (hl : PO X (some lo) tl) (hu : PO X (some hi) th) (hv : PE X value tv)
    (hs : swapsWith value (some (.Subscript o (.Slice (some lo) (some hi) none p2) pos')) pos.line X.env = pure false) (hK : X.K = K := by rfl) :
    PS X (.Assign [.Subscript o (.Slice (some lo) (some hi) none p2) pos'] value pos) (sSliceSetT K td tl th tv) := by
  subst hK
  refine ⟨fun pins s σ H D I h => ?_⟩
  refine wpAny_Assign_Subscript (thn (hv.run pins s σ H _ I h) fun r s1 ⟨v, H1, I1, rv, q1⟩ => thn (ho.run pins s1 σ H1 _ I1 q1) fun u s2 ⟨x, H2, I2, rx, q2⟩ => ?_) hs
  refine wpAny_Slice (thn (hl.run pins s2 σ H2 _ I2 q2) fun vl s3 ⟨l, H3, I3, pl, q3⟩ => thn (hu.run pins s3 σ H3 _ I3 q3) fun vu s4 ⟨z, H4, I4, pu, a, b, xs, ys, i, j, ex, ev, el, ez, ha, hb, h0, h1, h2, h3, q⟩ => ?_)
  subst ex ev el ez
  rw [evalPart_none]
  refine wpAny_pure ?_
  obtain rfl : u = Value.ref a := rx
  obtain rfl : r = Value.ref b := rv
  have I5 : Inv X pins σ H4 { s4 with heap := s4.heap.push { cls := .type "slice", data := .fields #[vl, vu, .none] } } := I4.kept (t' := s4.toks) fun b ob q => Heap.get?_push_of_some _ q
  have rl : RelV (.int i) vl := by
    cases pl
    exact ⟨_, rfl⟩
  have ru : RelV (.int j) vu := by
    cases pu
    exact ⟨_, rfl⟩
  exact set_sliceT I5 ha hb (Heap.IsSliceOf.new ..) rl ru h0 h1 h2 h3 fun s' I' => ⟨σ, _, I', q⟩
theorem splice_map {α : Type} {f : α → V} {xs ys : List α} {lo hi : Int} {H : Hp} {a : Addr} (h : H a = some (.lst ((xs.map f).take lo.toNat ++ ys.map f ++ (xs.map f).drop hi.toNat))) : H a = some (.lst ((spliceL xs lo hi ys).map f)) := by
  unfold spliceL
  rw [h, List.map_append, List.map_append, List.map_take, List.map_drop]
/-! ### a part of a tree changed by a call -/
theorem keepsXs {L L1 M : List Addr} {H H1 H2 : Hp} (e : Same H H1) (x : SameXs M H1 H2) (hm : ∀ b ∈ M, b ∈ L1) : ∀ b ∈ L, b ∉ L1 → ∀ o, H b = some o → H2 b = some o := fun b _ n o q => x b o (e b o q) (fun z => n (hm b z))
theorem grow_call {α : Type} {f : α → Dt} {G G2 H H1 H2 : Hp} {L L1 L2 M : List Addr} {vs : List V} {v : V} {xs : List α} {k : Int} {y : α} {a : Addr}
    (gr : ∀ G' H' y Fv L1', Same G G' → (∀ b ∈ L, b ∉ L1 → ∀ o, H b = some o → H' b = some o) → (∀ b ∈ L1', b ∈ L1 ++ Fv) → (∀ b ∈ Fv, b ∉ L) → Ow G' H' L1' v (f y) → ∃ L', (∀ b ∈ L', b ∈ L ++ Fv) ∧ OwAll G' H' L' vs ((setL xs k y).map f))
    (w : OwAll G H L vs (xs.map f)) (eG : Same G G2) (e : Same H H1) (x : SameXs M H1 H2) (hM : ∀ b ∈ M, b ∈ L1) (ha : a ∈ L1) (sub : ∀ b ∈ L2, b ∈ L1 ∨ H1 b = none) (ow : Ow G2 H2 (a :: L2) v (f y)) :
    ∃ L', (∀ b ∈ L', b ∈ L ∨ (b ∈ L2 ∧ H1 b = none)) ∧ OwAll G2 H2 L' vs ((setL xs k y).map f) := by
  have ex : ∀ b ∈ L, H1 b ≠ none := fun b hb z => by
    have h := OwAll.there w b hb
    cases q : H b with
    | none => exact h q
    | some o =>
      rw [e b o q] at z
      cases z
  have s1 : ∀ b ∈ a :: L2, b ∈ L1 ++ L2.filter (fun b => decide (b ∉ L1)) := fun b hb => by
    rcases List.mem_cons.mp hb with rfl | hb
    · exact List.mem_append_left _ ha
    · by_cases q : b ∈ L1
      · exact List.mem_append_left _ q
      · exact List.mem_append_right _ (List.mem_filter.mpr ⟨hb, decide_eq_true q⟩)
  have s2 : ∀ b ∈ L2.filter (fun b => decide (b ∉ L1)), b ∉ L := fun b hb q => by
    have := List.mem_filter.mp hb
    have n := of_decide_eq_true this.2
    rcases sub b this.1 with z | z
    · exact n z
    · exact ex b q z
  obtain ⟨L', h1, h2⟩ := gr G2 H2 y (L2.filter fun b => decide (b ∉ L1)) (a :: L2) eG (keepsXs e x hM) s1 s2 ow
  refine ⟨L', fun b hb => ?_, h2⟩
  rcases List.mem_append.mp (h1 b hb) with q | q
  · exact .inl q
  · have := List.mem_filter.mp q
    have n := of_decide_eq_true this.2
    rcases sub b this.1 with z | z
    · exact absurd z n
    · exact .inr ⟨this.1, z⟩
/-! ### zip(*rows) of data -/
def minLenG {α : Type} : List (List α) → Nat
  | [] => 0
  | [x] => x.length
  | x :: r => min x.length (minLenG r)
def colG {α : Type} (d : α) (xss : List (List α)) (i : Nat) : List α := xss.map fun r => r.getD i d
def zipG {α : Type} (d : α) (xss : List (List α)) : List (List α) := (List.range (minLenG xss)).map (colG d xss)
theorem minLenG_le {α : Type} : ∀ {xss : List (List α)} {xs : List α}, xs ∈ xss → minLenG xss ≤ xs.length
  | [x], xs, h => by
    simp at h
    subst h
    exact Nat.le_refl _
  | x :: y :: r, xs, h => by
    rcases List.mem_cons.mp h with rfl | h
    · exact Nat.min_le_left _ _
    · exact Nat.le_trans (Nat.min_le_right _ _) (minLenG_le h)
theorem minLenG_at {α : Type} : ∀ {xss : List (List α)}, xss ≠ [] → ∃ xs ∈ xss, xs.length = minLenG xss
  | [x], _ => ⟨x, List.mem_cons_self, rfl⟩
  | x :: y :: r, _ => by
    obtain ⟨z, hz, e⟩ := minLenG_at (xss := y :: r) (by simp)
    by_cases h : x.length ≤ minLenG (y :: r)
    · exact ⟨x, List.mem_cons_self, by show _ = min _ _; omega⟩
    · exact ⟨z, List.mem_cons_of_mem _ hz, by show _ = min _ _; omega⟩
theorem zipG_len {α : Type} (d : α) (xss : List (List α)) : (zipG d xss).length = minLenG xss := by simp [zipG]
theorem zipG_get {α : Type} {d : α} {xss : List (List α)} {i : Nat} (h : i < minLenG xss) : (zipG d xss)[i]? = some (colG d xss i) := by
  simp [zipG, List.getElem?_range h]
def RowsV (K : PySem.W.Frag) (H : Hp) (ls : List Addr) (vss : List (List V)) : Prop :=
  ls.length = vss.length ∧ ∀ (j : Nat) (l : Addr) (xs : List V), ls[j]? = some l → vss[j]? = some xs → SqL K H l xs
def RowsG (G : Hp) (ls : List Addr) (vss : List (List V)) : Prop :=
  ls.length = vss.length ∧ ∀ (j : Nat) (l : Addr) (xs : List V), ls[j]? = some l → vss[j]? = some xs → G l = some (.lst xs)
theorem RowsG.mono {G G' : Hp} {ls : List Addr} {vss : List (List V)} (e : Same G G') (r : RowsG G ls vss) : RowsG G' ls vss := ⟨r.1, fun j l xs h1 h2 => e _ _ (r.2 j l xs h1 h2)⟩
theorem RowsG.v {K : PySem.W.Frag} {G H : Hp} {ls : List Addr} {vss : List (List V)} (e : Same G H) (r : RowsG G ls vss) : RowsV K H ls vss := ⟨r.1, fun j l xs h1 h2 => SqL.of (e _ _ (r.2 j l xs h1 h2))⟩
theorem RowsV.all {K : PySem.W.Frag} {H : Hp} {ls : List Addr} {vss : List (List V)} (r : RowsV K H ls vss) : ∀ l ∈ ls, ∃ xs : List V, SqL K H l xs := fun l hl => by
  obtain ⟨j, hj⟩ := List.getElem?_of_mem hl
  have hjl : j < ls.length := (List.getElem?_eq_some_iff.mp hj).1
  have hjx : j < vss.length := by rw [← r.1]; exact hjl
  exact ⟨_, r.2 j l vss[j] hj (List.getElem?_eq_getElem hjx)⟩
theorem walk_zipV {K : PySem.W.Frag} {ls : List Addr} {vss : List (List V)} (hne : vss ≠ []) :
    Walk (Vz.ItzN K ls) (minLenG vss) (fun H => RowsV K H ls vss) (fun i H v H' => ∃ T, v = .ref T ∧ H T = none ∧ H' = upd H T (.tup (colG V.non vss i))) := by
  refine ⟨fun i H hi q => ?_, fun H q => ?_, fun i H x H' hi q y => ?_⟩
  · have hl : ls ≠ [] := fun z => hne (by have := q.1; rw [z] at this; exact List.length_eq_zero_iff.mp this.symm)
    refine ⟨hl, colG V.non vss i, by simp [colG, q.1], fun j l u h1 h2 => ?_⟩
    have hj : j < vss.length := by rw [← q.1]; exact (List.getElem?_eq_some_iff.mp h1).1
    have hx : vss[j]? = some vss[j] := List.getElem?_eq_getElem hj
    refine ⟨_, q.2 j l _ h1 hx, ?_⟩
    have hlt : i < vss[j].length := Nat.lt_of_lt_of_le hi (minLenG_le (List.getElem_mem hj))
    unfold colG at h2
    rw [List.getElem?_map, hx] at h2
    rw [List.getElem?_eq_getElem hlt]
    simp only [Option.map_some, Option.some.injEq] at h2
    rw [← h2, List.getD_eq_getElem?_getD, List.getElem?_eq_getElem hlt]
    rfl
  · refine ⟨q.all, ?_⟩
    obtain ⟨xs, hm, e⟩ := minLenG_at hne
    obtain ⟨j, hj⟩ := List.getElem?_of_mem hm
    have hjl : j < ls.length := by rw [q.1]; exact (List.getElem?_eq_some_iff.mp hj).1
    exact ⟨ls[j], List.getElem_mem hjl, _, q.2 j _ xs (List.getElem?_eq_getElem hjl) hj, by omega⟩
  · obtain ⟨T, us, rfl, hT, rfl, hul, hus⟩ := y
    refine ⟨T, rfl, hT, ?_⟩
    congr 2
    apply List.ext_getElem?
    intro j
    by_cases hj : j < vss.length
    · have hjl : j < ls.length := by rw [q.1]; exact hj
      have := hus j ls[j] (List.getElem?_eq_getElem hjl) _ (q.2 j _ vss[j] (List.getElem?_eq_getElem hjl) (List.getElem?_eq_getElem hj))
      rw [← this]
      have hlt : i < vss[j].length := Nat.lt_of_lt_of_le hi (minLenG_le (List.getElem_mem hj))
      unfold colG
      rw [List.getElem?_map, List.getElem?_eq_getElem hj, List.getElem?_eq_getElem hlt]
      simp only [Option.map_some, List.getD_eq_getElem?_getD, List.getElem?_eq_getElem hlt]
      rfl
    · rw [List.getElem?_eq_none (by rw [hul, q.1]; omega), List.getElem?_eq_none (by simp [colG]; omega)]
/-- rows of data: where they stand, what they hold -/
theorem rows_rpV {α : Type} {f : α → PyData} {G : Hp} : ∀ {vs : List V} {xss : List (List α)}, RpAll G vs (xss.map (encL f)) → ∃ (ls : List Addr) (vss : List (List V)), vs = ls.map V.ref ∧ RowsG G ls vss ∧ vss.length = xss.length ∧ ∀ (j : Nat) (ws : List V) (xs : List α), vss[j]? = some ws → xss[j]? = some xs → RpAll G ws (xs.map f)
  | _, [], h => by cases h; exact ⟨[], [], rfl, ⟨rfl, fun j l xs h1 _ => by simp at h1⟩, rfl, fun j ws xs h1 _ => by simp at h1⟩
  | _, xs :: r, h => by
    cases h with
    | cons r1 rr =>
      obtain ⟨ls, vss, rfl, h1, h2, h3⟩ := rows_rpV rr
      obtain ⟨a, ws, rfl, ha, hw⟩ := rp_list r1
      refine ⟨a :: ls, ws :: vss, rfl, ⟨by simp [h1.1], fun j l ys q1 q2 => ?_⟩, by simp [h2], fun j ws' ys q1 q2 => ?_⟩
      · cases j with
        | zero =>
          simp at q1 q2
          subst q1 q2
          exact ha
        | succ j => exact h1.2 j l ys (by simpa using q1) (by simpa using q2)
      · cases j with
        | zero =>
          simp at q1 q2
          subst q1 q2
          exact hw
        | succ j => exact h3 j ws' ys (by simpa using q1) (by simpa using q2)
theorem minV {α : Type} {f : α → PyData} {G : Hp} : ∀ {vss : List (List V)} {xss : List (List α)}, vss.length = xss.length → (∀ (j : Nat) (ws : List V) (xs : List α), vss[j]? = some ws → xss[j]? = some xs → RpAll G ws (xs.map f)) → minLenG vss = minLenG xss
  | [], [], _, _ => rfl
  | [ws], [xs], _, h => by
    have := (h 0 ws xs rfl rfl).len
    rw [List.length_map] at this
    exact this
  | ws :: w2 :: vss, xs :: x2 :: xss, hl, h => by
    have e := (h 0 ws xs rfl rfl).len
    rw [List.length_map] at e
    have i := minV (f := f) (G := G) (vss := w2 :: vss) (xss := x2 :: xss) (by simpa using hl) fun j a b h1 h2 => h (j + 1) a b (by simpa using h1) (by simpa using h2)
    show min ws.length (minLenG (w2 :: vss)) = min xs.length (minLenG (x2 :: xss))
    rw [e, i]
theorem colV {α : Type} {f : α → PyData} {d : α} {G : Hp} {i : Nat} : ∀ {vss : List (List V)} {xss : List (List α)}, vss.length = xss.length → (∀ (j : Nat) (ws : List V) (xs : List α), vss[j]? = some ws → xss[j]? = some xs → RpAll G ws (xs.map f)) → (∀ xs ∈ xss, i < xs.length) → RpAll G (colG V.non vss i) ((colG d xss i).map f)
  | [], [], _, _, _ => .nil
  | ws :: vss, xs :: xss, hl, h, hi => by
    have r := h 0 ws xs rfl rfl
    have e := r.len
    rw [List.length_map] at e
    have hx := hi xs List.mem_cons_self
    have hw : i < ws.length := by omega
    obtain ⟨y, hy, rp⟩ := RpAll.get r (List.getElem?_eq_getElem hw)
    have t := colV (f := f) (d := d) (G := G) (i := i) (vss := vss) (xss := xss) (by simpa using hl) (fun j a b h1 h2 => h (j + 1) a b (by simpa using h1) (by simpa using h2)) fun ys hys => hi ys (List.mem_cons_of_mem _ hys)
    refine .cons ?_ t
    show Rp G (ws.getD i V.non) (f (xs.getD i d))
    rw [List.getD_eq_getElem?_getD, List.getElem?_eq_getElem hw, List.getD_eq_getElem?_getD, hy]
    exact rp
theorem colV_at {α : Type} {f : α → PyData} {d : α} {G : Hp} {i : Nat} {vss : List (List V)} {xss : List (List α)} (hl : vss.length = xss.length) (h : ∀ (j : Nat) (ws : List V) (xs : List α), vss[j]? = some ws → xss[j]? = some xs → RpAll G ws (xs.map f)) (hi : i < minLenG vss) : RpAll G (colG V.non vss i) ((colG d xss i).map f) :=
  colV hl h fun xs hx => Nat.lt_of_lt_of_le (by rw [minV hl h] at hi; exact hi) (minLenG_le hx)
theorem lc_zipV {K : PySem.W.Frag} {ls : List Addr} {vss : List (List V)} {g : TG} {tt : TT} {te : TE} {vs : List Nat} {σ : L2.St} {H1 : Hp} {D : Addr} {Qd : Hp → Prop} (hne : vss ≠ []) (Pv : Nat → Hp → Prop) (h0 : Pv 0 (upd H1 D (.lst []))) (hq : ∀ i H, i ≤ minLenG vss → Pv i H → RowsV K H ls vss)
    (hs : ∀ (i : Nat) (T : Addr) (H : Hp), i < minLenG vss → H T = none → Pv i H → g (.ref T) (wipe σ vs) (upd H T (.tup (colG V.non vss i))) fun σ2 H2 => wipe σ2 vs = wipe σ vs ∧ tt σ2 H2 fun b H3 =>
      if b = true then te σ2 H3 fun y H4 => ∃ acc, H4 D = some (.lst acc) ∧ acc.length < sizeLine ∧ Pv (i + 1) (upd H4 D (.lst (acc ++ [y]))) else Pv (i + 1) H3) (hd : ∀ H, Pv (minLenG vss) H → Qd H) :
    ∃ W : Nat → Nat → Hp → Prop, (∃ m, W 0 m (upd H1 D (.lst []))) ∧ ∀ i m H, W i m H →
      ((Vz.ItzN K ls).stop i H ∧ Qd H) ∨ ((Vz.ItzN K ls).go i H ∧ ∃ Nx : Hp → Prop, (∀ H', Nx H' → ∃ m', m' < m ∧ W (i + 1) m' H') ∧ ∀ x H', (Vz.ItzN K ls).yld i H x H' → g x (wipe σ vs) H' fun σ2 H2 => wipe σ2 vs = wipe σ vs ∧ tt σ2 H2 fun b H3 =>
        if b = true then te σ2 H3 fun y H4 => ∃ acc, H4 D = some (.lst acc) ∧ acc.length < sizeLine ∧ Nx (upd H4 D (.lst (acc ++ [y]))) else Nx H3) := by
  refine lc_it (walk_zipV hne) Pv h0 hq (fun i x H H' hi p y => ?_) hd
  obtain ⟨T, rfl, hT, rfl⟩ := y
  exact hs i T H hi hT p
theorem slcI_hi {xs : List Int} {hi : Int} (g : hi ≤ ((xs.length : Nat) : Int)) : hi ≤ (((xs.map V.int).length : Nat) : Int) := by
  rw [List.length_map]
  exact g
theorem slcI_len {xs ys : List Int} (g : xs.length + ys.length ≤ 1000000) : (xs.map V.int).length + (ys.map V.int).length ≤ sizeLine := by
  rw [List.length_map, List.length_map]
  exact Nat.le_trans g (by unfold sizeLine; decide)
theorem Ow.atInts {G H : Hp} {b : Addr} {L : List Addr} {xs : List Int} (w : Ow G H L (.ref b) (oL oI xs)) : L = [b] ∧ H b = some (.lst (xs.map V.int)) := by
  obtain ⟨a, e, rfl, h⟩ := w.toInts
  cases e
  exact ⟨rfl, h⟩
theorem samex_of {m : Addr} {H H1 H2 : Hp} (e : Same H H1) (x : SameX m H1 H2) : SameX m H H2 := fun b o q n => x b o (e b o q) n
end Vx

/-! ### a loop over a display, turn by turn -/
namespace Vx
open PySem PySem.Spec PyProof.Rows L2
def unr (K : PySem.W.Frag) (a : Addr) (ys : List V) (g : TG) (tb : TS) (D : Ends) : List V → L2.St → Hp → Prop
  | [], σ, H => SqL K H a ys ∧ D.nx σ H
  | x :: r, σ, H => SqL K H a ys ∧ g x σ H fun σ2 H2 => tb { D with nx := unr K a ys g tb D r, ct := unr K a ys g tb D r, bk := D.nx } σ2 H2
section
variable {K : PySem.W.Frag} {a : Addr} {ys r : List V} {x : V} {g : TG} {tb : TS} {D : Ends} {σ : L2.St} {H : Hp}
theorem unr_n (h : SqL K H a ys) (q : D.nx σ H) : unr K a ys g tb D [] σ H := ⟨h, q⟩
theorem unr_c (h : SqL K H a ys) (q : g x σ H fun σ2 H2 => tb { D with nx := unr K a ys g tb D r, ct := unr K a ys g tb D r, bk := D.nx } σ2 H2) : unr K a ys g tb D (x :: r) σ H := ⟨h, q⟩
theorem unr_sq : ∀ {zs : List V} {σ : L2.St} {H : Hp}, unr K a ys g tb D zs σ H → SqL K H a ys
  | [], _, _, h => h.1
  | _ :: _, _, _, h => h.1
theorem for_unr (h : unr K a ys g tb D ys σ H) : ∃ W : Nat → Nat → L2.St → Hp → Prop, (∃ m, W 0 m σ H) ∧ ∀ i m σ H, W i m σ H →
      ((Itl K a).stop i H ∧ D.nx σ H) ∨ ((Itl K a).go i H ∧ ∃ N : L2.St → Hp → Prop, (∀ σ' H', N σ' H' → ∃ m', m' < m ∧ W (i + 1) m' σ' H') ∧ ∀ x H', (Itl K a).yld i H x H' → g x σ H' fun σ2 H2 => tb { D with nx := N, ct := N, bk := D.nx } σ2 H2) := by
  refine for_list (xs := ys) (fun i σ H => unr K a ys g tb D (ys.drop i) σ H) h (fun i σ H _ q => unr_sq q) (fun i x σ H hx q => ?_) fun σ H q => ?_
  · have hi : i < ys.length := (List.getElem?_eq_some_iff.mp hx).1
    have e : ys.drop i = x :: ys.drop (i + 1) := by
      rw [List.drop_eq_getElem_cons hi]
      congr 1
      rw [List.getElem?_eq_getElem hi] at hx
      exact Option.some.inj hx
    have q : unr K a ys g tb D (ys.drop i) σ H := q
    rw [e] at q
    exact q.2
  · have q : unr K a ys g tb D (ys.drop ys.length) σ H := q
    rw [List.drop_length] at q
    exact q.2
end
end Vx
/-! # properties read within an except suite: their bodies walk over nothing and raise nothing, so they need not know what is handled -/
namespace Vx
open PySem PySem.Spec PyProof.Rows L2
theorem RoomG.q {j : Nat} {A : Around} {v : Option Value} (r : RoomG j A) : L2H.RoomH j (A.mark v) := ⟨r.toRoom.dp, r.toRoom.un⟩
theorem roomH_in1 {k : Nat} {A : Around} (r : L2H.RoomH (k + 1) A) : L2H.RoomH k A.in1 :=
  ⟨by have := r.dp; show A.depth + 3 * k + 5 < _; omega, by have := r.un; show A.units + 1 + 16 * k + 200 < _; omega⟩
structure FnQ (P : Program) (w : World) (K : PySem.W.Frag) (mg : Str → Option Value) (base : Heap) (cx : CXT) (k : Nat) (f : Addr) (fd : FuncData) (ps : List Str) (sp : Sp) : Prop where
  len : ∀ vs H Q E, sp vs H Q E → vs.length = ps.length
  run : ∀ (A : Around) (outer : List Env) (s : Shared) (H : Hp) (args : Args) (us : List Value) (vs : List V) (Q : VK) (E : XK) (p : Addr × Obj), L2H.RoomH k A → L2H.PinOk outer H s p → Env0 P w K mg base A outer s H → BindsTo s fd args (ps.zip us) → Vals vs us → sp vs H Q E → codeAny (model P w) A (.call (.ref f) args) (CR cx outer P w H s Q E) s
section
variable {P : Program} {w : World} {K : PySem.W.Frag} {mg : Str → Option Value} {base : Heap} {cx : CXT} {j k : Nat} {f : Addr} {fd : FuncData} {ps : List Str} {sp sp' : Sp}
theorem FnQ.body {x qual : Str} {params : Arguments} {body : List Stmt} {scope : Scope} {dvs : List V} {kws : List (Str × V)} {N : List Str} (F : FunD K x qual params body scope dvs kws f fd) (S : FnScope N ps scope) (len : ∀ vs H Q E, sp vs H Q E → vs.length = ps.length)
    (hb : ∀ (cdv : Value) (A : Around) (outer : List Env) (s : Shared) (H : Hp) (vs : List V) (Q : VK) (E : XK) (p : Addr × Obj), sp vs H Q E →
      ∃ t, PSs (L2H.cxH cx P w K mg base N qual scope f cdv A outer s H E p) body t ∧ t { nx := fun _ H' => Q .non H', rt := Q } (start N vs) H) : FnQ P w K mg base cx (k + 1) f fd ps sp := by
  obtain ⟨oc, od, dV, kV, doc, pm, an, cdv, ct, osl, rfl, lk, code, _, _⟩ := F.ex
  constructor
  · exact len
  · intro A outer s H args us vs Q E p room pin env binds vals prom
    have nvs := len vs H Q E prom
    have kin : K.In s.heap := env.mod.kin.keeps fun b o q => (env.bs b o q).1
    have nolim : s.heap.NoLimit := env.mod.nolimit.keeps fun b o q => (env.bs b o q).1
    have kinds : ∀ q ∈ ps.zip us, scope.names.lookup q.1 = some .local ∨ (scope.names.lookup q.1 = some .cell ∧ ((cellsFrom (s.heap.objs.size + 1) scope.names []).lookup q.1).isSome = true) := by
      rintro ⟨n, v⟩ hq
      cases S.par n (List.of_mem_zip hq).1 with
      | inl z => exact .inl z
      | inr z => exact .inr ⟨z, PySem.W.cellsFrom_some _ _ _ (.inl z)⟩
    refine codeAny_call_function room.depth (kin _ _ lk) rfl S.co S.gen rfl (PySem.W.codeRec_of kin code) (binds _ _ _ _ ?_)
    refine wpAny_newFunctionEnv_cells S.kind kinds ?_
    rintro _ rfl s1 made
    refine ⟨nolim.keeps made.toInCall.keep, codeAny_func ?_⟩
    obtain ⟨t, pss, start_⟩ := hb cdv A outer s H vs Q E p prom
    have inv := L2H.inv_startH (CX := cx) (E := E) S pin env nvs vals made
    have close : ∀ {τ : L2.St} {H2 : Hp} {v : V} {u : Value} {s2 : Shared}, Inv (L2H.cxH cx P w K mg base N qual scope f cdv A outer s H E p) [] τ H2 s2 → RelV v u → Q v H2 → CE outer P w H s Q u s2 := fun inv2 rel q => ⟨_, _, inv2.os, inv2.bare, inv2.base, inv2.hok, rel, q⟩
    refine wpAny_mono (pss.run [] s1 (start N vs) H _ inv start_) ?_ fun _ _ z => z
    intro flow s2 out
    cases flow with
    | next =>
      obtain ⟨τ, H2, inv2, q⟩ := out
      exact close (v := .non) (u := .none) inv2 rfl q
    | ret u =>
      obtain ⟨v, τ, H2, inv2, rel, q⟩ := out
      exact close inv2 rel q
    | brk =>
      obtain ⟨_, _, _, q⟩ := out
      exact q.elim
    | cont =>
      obtain ⟨_, _, _, q⟩ := out
      exact q.elim
structure PropQ (P : Program) (w : World) (K : PySem.W.Frag) (mg : Str → Option Value) (base : Heap) (k : Nat) (C : Addr) (m : Str) (sp : Sp) (pats : List Pat) : Prop where
  y : PropY P w K mg base k C m sp pats
  ex : ∃ (q f : Addr) (fd : FuncData) (ps : List Str), Cls K C ∧ PropOf K C m q f ∧ FnQ P w K mg base (L2.CX P w) k f fd ps sp ∧ Binds K fd ps []
theorem PropX.okQ {C : Addr} {q m : Str} {st : Stmt} {N ps : List Str} {pats : List Pat} {k : Nat} {sp : Sp} (D : PropX K C q m st ps pats) (c : Cls K C) (S : FnScope N ps (defScope st)) (len : ∀ vs H Q E, sp vs H Q E → vs.length = ps.length)
    (hbody : BodyX P w K mg base q st N k sp)
    (hb2 : ∀ (f : Addr) (cdv : Value) (A : Around) (outer : List Env) (s : Shared) (H : Hp) (vs : List V) (Q : VK) (E : XK) (p : Addr × Obj), sp vs H Q E →
      ∃ t, PSs (L2H.cxH (L2.CX P w) P w K mg base N q (defScope st) f cdv A outer s H E p) (defBody st) t ∧ t { nx := fun _ H' => Q .non H', rt := Q } (start N vs) H) : PropQ P w K mg base (k + 1) C m sp pats := by
  refine ⟨D.ok c S len hbody, ?_⟩
  obtain ⟨r, f, fd, dvs, kws, F, me, b⟩ := D.ex
  exact ⟨r, f, fd, ps, c, me, FnQ.body F S len (fun cdv A outer s H vs Q E p h => hb2 f cdv A outer s H vs Q E p h), b⟩
end
section
variable {X : Cx} {k j : Nat} {C : Addr} {sp : Sp} {m : Str} {pos : Pos} {o : Expr} {ta : TE} {p : Addr × Obj}
theorem vx_propQ {pats : List Pat} (hp : p ∈ X.pn) (c : PropQ X.prog X.w X.K X.mg X.base k C m sp pats) (hr : L2H.RoomH j X.A) (hk : k + 1 ≤ j) (he : PE X o ta) (hab : attributeBase o m X.env (eval o X.env) = eval o X.env := by rfl) : PE X (.Attribute o m pos) (tProp C sp [] E0 ta) := by
  obtain ⟨q, f, fd, ps, cls, prop, F, bind⟩ := c.ex
  constructor
  intro pins s σ H Q I h
  refine attr_of hab (thn (he.run pins s σ H _ I h) ?_)
  rintro u s1 ⟨x, H1, I1, rx, a, dx, fs, rfl, ea, prom⟩
  cases rx
  obtain ⟨mA, O, _⟩ := ins_get I1.hok ea
  obtain ⟨od, J, _⟩ := O.look
  obtain ⟨rest, rec_⟩ := prop.rec_
  have short : [Value.ref a].length = ps.length := (F.len _ _ _ _ prom).symm ▸ rfl
  have isCls : (PySem.W.clsIn X.K C).isSome = true := by
    obtain ⟨cd, e, _⟩ := PySem.W.any_some cls.hd
    rw [e]
    rfl
  refine PySem.W.get_bind I1.kIn J (PySem.W.plainGet_of (cls.get m)).1 (PySem.W.findObj_data isCls prop.at_ prop.get prop.tak) (PySem.W.plainGet_of (cls.get m)).2 (wpAny_call (PySem.W.prop_get (s := { s1 with toks := s1.toks + 1 }) I1.kIn rec_ ?_))
  have I2 := I1.tok (s1.toks + 1)
  have P1 := I2.pin p (List.mem_append_left _ hp)
  have pin : L2H.PinOk X.stack H1 { s1 with toks := s1.toks + 1 } p := ⟨P1.1, P1.2.1, fun hm => (List.mem_cons.mp (I2.stkSub p.1 hm)).elim P1.2.2.1 P1.2.2.2.1, P1.2.2.2.2⟩
  refine codeAny_mono (F.run X.A.in1 X.stack _ H1 ⟨[.ref a], []⟩ [.ref a] [.ref a] Q E0 p (roomH_in1 (hr.mono hk)) pin I2.env0.in1 (by simpa using bind _ [.ref a] I2.kIn (by simpa using short)) (.cons rfl .nil) prom) ?_
  intro r s2 out
  cases r with
  | error er => exact (passL (X := X.nox) pins σ H1 _ er s2 (I2.wish _) out).elim
  | ok flow =>
    cases flow with
    | ret v =>
      obtain ⟨y, H2, I3, ry, qy⟩ := I2.after out
      have given := PySem.W.handedOut_of (handed_of ry)
      show wpAny _ _ (handedOut v) _ _ s2
      rw [given]
      exact wpAny_pure ⟨y, H2, I3, ry, qy⟩
    | next => exact out.elim
    | brk => exact out.elim
    | cont => exact out.elim
end
end Vx
/-! # fourth part: reckoning with functions that may refuse -/
namespace Vx
open PySem PySem.Spec PyProof.Rows L2
section
variable {α β σ ρ τ : Type}
theorem bind_ok (a : α) (f : α → Rx β) : (Rx.ok a).bind f = f a := rfl
theorem bind_er (e : Nat) (f : α → Rx β) : (Rx.er e : Rx α).bind f = .er e := rfl
theorem grd_pos {p : Prop} {dp : Decidable p} {m : Rx α} (h : p) : grd p m = m := if_pos h
theorem bnd_eq (a : α) (f : α → Rx β) : bnd a f = f a := rfl
theorem noEr_ok (a : α) : noEr (.ok a : Rx α) = .ok a := rfl
theorem tryR_ok {cs : List Nat} (a : α) (f : α → Rx β) (g : Nat → Rx β) : tryR (.ok a) cs f g = f a := rfl
theorem tryR_er {cs : List Nat} {e : Nat} (h : e ∈ cs) (f : α → Rx β) (g : Nat → Rx β) : tryR (.er e) cs f g = g e := if_pos h
theorem aft_go (s : σ) (kr : ρ → Rx τ) (k : σ → Rx τ) : (Lp.go s : Lp σ ρ).aft kr k = k s := rfl
theorem aft_rt (r : ρ) (kr : ρ → Rx τ) (k : σ → Rx τ) : (Lp.rt r : Lp σ ρ).aft kr k = kr r := rfl
/-- gives a value of which P holds -/
def Gv (m : Rx α) (P : α → Prop) : Prop := ∃ v, m = .ok v ∧ P v
theorem Gv.ok {a : α} {P : α → Prop} (h : P a) : Gv (.ok a) P := ⟨a, rfl, h⟩
theorem Gv.of_eq {m : Rx α} {a : α} {P : α → Prop} (e : m = .ok a) (h : P a) : Gv m P := ⟨a, e, h⟩
theorem Gv.bind {m : Rx α} {f : α → Rx β} {P : α → Prop} {Q : β → Prop} (h : Gv m P) (k : ∀ v, P v → Gv (f v) Q) : Gv (m.bind f) Q := by
  obtain ⟨v, rfl, p⟩ := h
  exact k v p
theorem Gv.bind_eq {m : Rx α} {f : α → Rx β} {a : α} {Q : β → Prop} (h : m = .ok a) (k : Gv (f a) Q) : Gv (m.bind f) Q := by
  subst h
  exact k
theorem Gv.grd {p : Prop} {dp : Decidable p} {m : Rx α} {Q : α → Prop} (h : p) (k : Gv m Q) : Gv (Vx.grd p m) Q := by
  rw [grd_pos h]
  exact k
theorem Gv.bnd {a : α} {f : α → Rx β} {Q : β → Prop} (k : ∀ x, x = a → Gv (f x) Q) : Gv (Vx.bnd a f) Q := k a rfl
theorem Gv.ite {p : Prop} {dp : Decidable p} {a b : Rx α} {Q : α → Prop} (h1 : p → Gv a Q) (h2 : ¬ p → Gv b Q) : Gv (if p then a else b) Q := by
  split
  · exact h1 ‹_›
  · exact h2 ‹_›
theorem Gv.pos {p : Prop} {dp : Decidable p} {a b : Rx α} {Q : α → Prop} (h : p) (k : Gv a Q) : Gv (if p then a else b) Q := by rwa [if_pos h]
theorem Gv.neg {p : Prop} {dp : Decidable p} {a b : Rx α} {Q : α → Prop} (h : ¬ p) (k : Gv b Q) : Gv (if p then a else b) Q := by rwa [if_neg h]
theorem Gv.imp {m : Rx α} {P Q : α → Prop} (h : Gv m P) (k : ∀ v, P v → Q v) : Gv m Q := by
  obtain ⟨v, e, p⟩ := h
  exact ⟨v, e, k v p⟩
theorem Gv.noEr {m : Rx α} {P : α → Prop} (h : Gv m P) : Gv (Vx.noEr m) P := by
  obtain ⟨v, rfl, p⟩ := h
  exact ⟨v, rfl, p⟩
theorem Gv.tryOk {m : Rx α} {cs : List Nat} {f : α → Rx β} {g : Nat → Rx β} {P : α → Prop} {Q : β → Prop} (h : Gv m P) (k : ∀ v, P v → Gv (f v) Q) : Gv (tryR m cs f g) Q := by
  obtain ⟨v, rfl, p⟩ := h
  exact k v p
theorem Gv.tryEr {m : Rx α} {cs : List Nat} {e : Nat} {f : α → Rx β} {g : Nat → Rx β} {Q : β → Prop} (h : m = .er e) (hm : e ∈ cs) (k : Gv (g e) Q) : Gv (tryR m cs f g) Q := by
  subst h
  rw [tryR_er hm]
  exact k
theorem Gv.get {m : Rx α} {a : α} (h : Gv m (fun v => v = a)) : m = .ok a := by
  obtain ⟨v, e, rfl⟩ := h
  exact e
theorem Gv.eq {m : Rx α} {P : α → Prop} (h : Gv m P) : ∃ v, m = .ok v ∧ P v := h
/-- a loop that keeps P -/
theorem Gv.forS {P : Nat → σ → Prop} {xs : List α} {s : σ} {f : σ → α → Rx σ} (h0 : P 0 s) (hs : ∀ i x s, xs[i]? = some x → P i s → Gv (f s x) (P (i + 1))) : Gv (Vx.forS xs s f) (P xs.length) := by
  induction xs generalizing s P with
  | nil => exact .ok h0
  | cons x r ih =>
    refine Gv.bind (hs 0 x s rfl h0) fun s' p => ?_
    exact ih (P := fun i => P (i + 1)) p fun i y s hy q => hs (i + 1) y s (by simpa using hy) q
theorem Gv.forR {P : Nat → σ → Prop} {xs : List α} {s : σ} {f : σ → α → Rx (Lp σ ρ)} (h0 : P 0 s) (hs : ∀ i x s, xs[i]? = some x → P i s → Gv (f s x) (fun l => ∃ s', l = .go s' ∧ P (i + 1) s')) : Gv (Vx.forR xs s f) (fun l => ∃ s', l = .go s' ∧ P xs.length s') := by
  induction xs generalizing s P with
  | nil => exact .ok ⟨s, rfl, h0⟩
  | cons x r ih =>
    refine Gv.bind (hs 0 x s rfl h0) ?_
    rintro _ ⟨s', rfl, p⟩
    exact ih (P := fun i => P (i + 1)) p fun i y s hy q => hs (i + 1) y s (by simpa using hy) q
/-- a loop that carries nothing -/
theorem forR_unit {xs : List α} {f : Unit → α → Rx (Lp Unit ρ)} (h : ∀ x ∈ xs, f () x = .ok (.go ())) : Vx.forR xs () f = .ok (.go ()) := by
  induction xs with
  | nil => rfl
  | cons x r ih =>
    show (f () x).bind _ = _
    rw [h x List.mem_cons_self]
    exact ih fun y hy => h y (List.mem_cons_of_mem _ hy)
theorem forS_pure {xs : List α} {s : σ} {f : σ → α → Rx σ} {g : σ → α → σ} (h : ∀ s x, x ∈ xs → f s x = .ok (g s x)) : Vx.forS xs s f = .ok (xs.foldl g s) := by
  induction xs generalizing s with
  | nil => rfl
  | cons x r ih =>
    show (f s x).bind _ = _
    rw [h s x List.mem_cons_self]
    exact ih fun s y hy => h s y (List.mem_cons_of_mem _ hy)
theorem mapA_pure {xs : List α} {acc : List β} {f : α → Rx β} {g : α → β} (h : ∀ x ∈ xs, f x = .ok (g x)) (hl : acc.length + xs.length ≤ 1000000) : mapA xs acc f = .ok (acc ++ xs.map g) := by
  induction xs generalizing acc with
  | nil => simp [mapA]
  | cons x r ih =>
    rw [List.length_cons] at hl
    unfold mapA
    rw [grd_pos (by omega), h x List.mem_cons_self, bind_ok, ih (fun y hy => h y (List.mem_cons_of_mem _ hy)) (by rw [List.length_append, List.length_cons, List.length_nil]; omega)]
    simp
theorem mapA_pure0 {xs : List α} {f : α → Rx β} {g : α → β} (h : ∀ x ∈ xs, f x = .ok (g x)) (hl : xs.length ≤ 1000000) : mapA xs [] f = .ok (xs.map g) := by
  rw [mapA_pure h (by simpa using hl)]
  rfl
theorem mapF_pure {xs : List α} {acc : List β} {f : α → Rx (Option β)} {g : α → Option β} (h : ∀ x ∈ xs, f x = .ok (g x)) (hl : acc.length + xs.length ≤ 1000000) : mapF xs acc f = .ok (acc ++ xs.filterMap g) := by
  induction xs generalizing acc with
  | nil => simp [mapF]
  | cons x r ih =>
    rw [List.length_cons] at hl
    unfold mapF
    rw [grd_pos (by omega), h x List.mem_cons_self, bind_ok]
    cases e : g x with
    | none =>
      show mapF r acc f = _
      rw [ih (fun y hy => h y (List.mem_cons_of_mem _ hy)) (by omega), List.filterMap_cons, e]
    | some z =>
      show mapF r (acc ++ [z]) f = _
      rw [ih (fun y hy => h y (List.mem_cons_of_mem _ hy)) (by rw [List.length_append, List.length_cons, List.length_nil]; omega), List.filterMap_cons, e]
      simp
/-- a while that ends: m falls -/
theorem Gv.whileR {P : σ → Prop} {R : σ → Prop} (m : σ → Nat) {f : σ → Rx (Lp σ ρ)} (hs : ∀ s, P s → Gv (f s) (fun l => (∃ s', l = .go s' ∧ P s' ∧ m s' < m s) ∨ ∃ s', l = .bk s' ∧ R s')) : ∀ {n : Nat} {s : σ}, P s → m s < n → Gv (Vx.whileR n s f) (fun l => ∃ s', l = .go s' ∧ R s') := by
  intro n
  induction n with
  | zero => intro s _ h; exact absurd h (Nat.not_lt_zero _)
  | succ n ih =>
    intro s p h
    refine Gv.bind (hs s p) ?_
    rintro _ (⟨s', rfl, p', l⟩ | ⟨s', rfl, r⟩)
    · exact ih p' (by omega)
    · exact .ok ⟨s', rfl, r⟩
end
/-- a loop that may return -/
theorem Gv.forRR {α σ ρ : Type} {P : Nat → σ → Prop} {Q : ρ → Prop} {xs : List α} {s : σ} {f : σ → α → Rx (Lp σ ρ)} (h0 : P 0 s) (hs : ∀ i x s, xs[i]? = some x → P i s → Gv (f s x) (fun l => (∃ s', l = .go s' ∧ P (i + 1) s') ∨ ∃ r, l = .rt r ∧ Q r)) : Gv (Vx.forR xs s f) (fun l => (∃ s', l = .go s' ∧ P xs.length s') ∨ ∃ r, l = .rt r ∧ Q r) := by
  induction xs generalizing s P with
  | nil => exact .ok (.inl ⟨s, rfl, h0⟩)
  | cons x r ih =>
    refine Gv.bind (hs 0 x s rfl h0) ?_
    rintro _ (⟨s', rfl, p⟩ | ⟨r, rfl, q⟩)
    · exact ih (P := fun i => P (i + 1)) p fun i y s hy q => hs (i + 1) y s (by simpa using hy) q
    · exact .ok (.inr ⟨r, rfl, q⟩)
theorem rng_mem {lo x : Int} {n : Nat} (h : x ∈ rng lo n) : lo ≤ x ∧ x < lo + n := by
  unfold rng at h
  obtain ⟨j, hj, rfl⟩ := List.mem_map.mp h
  have := List.mem_range.mp hj
  omega
theorem rng_at {lo x : Int} {n i : Nat} (h : (rng lo n)[i]? = some x) : x = lo + i ∧ i < n := by
  have hl := get_len h
  rw [rng_len] at hl
  rw [rng_get hl] at h
  exact ⟨(Option.some.inj h).symm, hl⟩
end Vx
namespace Vx
open PySem PySem.Spec PyProof.Rows L2
/-! ### the head's facts -/
abbrev Frg : Type := PySem.W.Frag
abbrev FaK : Type := Frg → Bool
abbrev AlK : Type := Bool × List He.FnW × List (Option (List (Option (Str × Int))))
def obsK (fa : List (List FaK)) (fn : List He5.DefA) (ts : List He.Tab) (K : Frg) : AlK :=
  ((fa.all fun l => l.all fun f => f K) && fn.all fun d => d.ok K, fn.map fun d => He5.fnA K (d.at_ K), ts.map fun t => He.dicW K (t.1 K))
def valK (fn : List He5.DefA) (ts : List He.Tab) (w : World) : AlK := (true, fn.map He5.DefA.val, ts.map fun t => some (He.keysIn w.params t.2))
def SaysK (fa : List (List FaK)) (fn : List He5.DefA) (ts : List He.Tab) (w : World) (K : Frg) : Prop := obsK fa fn ts K = valK fn ts w
/-- what the names reach in n steps; what has been met is a number's bits -/
def grow1 : List Addr → Nat → List Addr → Nat × List Addr
  | [], m, nw => (m, nw)
  | a :: r, m, nw => match Nat.beq (Nat.land (Nat.shiftRight m a) 1) 1 with
    | true => grow1 r m nw
    | false => HandSHeadRun.frNat (Nat.lor m (Nat.shiftLeft 1 a)) fun m' => grow1 r m' (a :: nw)
def refsG (g : Addr → Option Obj) (a : Addr) : List Addr := match g a with
  | some o => He.refsD o
  | none => []
def asB (g : Addr → Option Obj) : Nat → Nat → List Addr → List Addr
  | 0, _, fr => fr
  | n + 1, m, fr => match grow1 (fr.flatMap (refsG g)) m [] with
    | (m', nw) => fr ++ asB g n m' nw
def asK (g : Addr → Option Obj) (n : Nat) : List Addr := asB g n (Nat.shiftLeft 1 mainGlobals) [mainGlobals]
def obsKG (n : Nat) (fa : List (List FaK)) (fn : List He5.DefA) (ts : List He.Tab) (g : Addr → Option Obj) : AlK := obsK fa fn ts (He.frG g (asK g n))
def hookK (n : Nat) (fa : List (List FaK)) (fn : List He5.DefA) (ts : List He.Tab) : PySem.W.Hook where
  α := AlK
  obs := fun s => obsKG n fa fn ts s.heap.get?
  val := fun w => valK fn ts w
  says := fun w h => ∃ K : Frg, K.In h ∧ SaysK fa fn ts w K
  of := fun _ _ e => ⟨_, He.frG_in, e⟩
  keeps := fun _ _ _ ⟨K, hK, c⟩ k => ⟨K, PySem.W.Frag.In.keeps hK k, c⟩
theorem obsKG_eq {n : Nat} {fa : List (List FaK)} {fn : List He5.DefA} {ts : List He.Tab} {g : Addr → Option Obj} {s : Shared} (h : ∀ a, g a = s.heap.get? a) : obsKG n fa fn ts g = (hookK n fa fn ts).obs s := by
  have e : g = s.heap.get? := funext h
  rw [e] <;> rfl
section
variable {fa : List (List FaK)} {fn : List He5.DefA} {ts : List He.Tab} {w : World} {K : Frg}
theorem SaysK.fact (c : SaysK fa fn ts w K) (i j : Nat) {l : List FaK} {f : FaK} (hl : fa[i]? = some l := by rfl) (h : l[j]? = some f := by rfl) : f K = true := by
  have c1 := (He.ba (show ((fa.all fun l => l.all fun f => f K) && fn.all fun d => d.ok K) = true from congrArg (fun z : AlK => z.1) c)).1
  have c2 := List.all_eq_true.mp c1 l (List.mem_of_getElem? hl)
  exact List.all_eq_true.mp c2 f (List.mem_of_getElem? h)
theorem SaysK.def_ (c : SaysK fa fn ts w K) (i : Nat) {d : He5.DefA} (h : fn[i]? = some d := by rfl) : ∃ fd, FunD K d.name d.qual d.params d.body d.scope (d.dvs K) (d.kws K) (d.at_ K) fd := by
  have c2 := (He.ba (show ((fa.all fun l => l.all fun f => f K) && fn.all fun d => d.ok K) = true from congrArg (fun z : AlK => z.1) c)).2
  have e : fn.map (fun d => He5.fnA K (d.at_ K)) = fn.map He5.DefA.val := congrArg (fun z : AlK => z.2.1) c
  have e2 : (fn.map fun d => He5.fnA K (d.at_ K))[i]? = (fn.map He5.DefA.val)[i]? := by rw [e]
  rw [List.getElem?_map, List.getElem?_map, h] at e2
  exact He5.DefA.funD (Option.some.inj e2) (List.all_eq_true.mp c2 d (List.mem_of_getElem? h))
theorem SaysK.tab (c : SaysK fa fn ts w K) (i : Nat) {t : He.Tab} (h : ts[i]? = some t := by rfl) : He.dicW K (t.1 K) = some (He.keysIn w.params t.2) := by
  have e : ts.map (fun t => He.dicW K (t.1 K)) = ts.map fun t => some (He.keysIn w.params t.2) := congrArg (fun z : AlK => z.2.2) c
  have e2 : (ts.map fun t => He.dicW K (t.1 K))[i]? = (ts.map fun t => some (He.keysIn w.params t.2))[i]? := by rw [e]
  rw [List.getElem?_map, List.getElem?_map, h] at e2
  exact Option.some.inj e2
end
/-! ### facts -/
/-- a def's keyword default, if it is an object -/
def kdA (f : Frg → Addr) (x : Str) (K : Frg) : Addr := match K.lookup (f K) with
  | some ⟨_, _, .func fd, _⟩ => (match fd.kwdefaults with
    | .ref D => (match PySem.W.nsIn K D x with
      | some (some (.ref a)) => a
      | _ => 0)
    | _ => 0)
  | _ => 0
/-- a property's def -/
def prA (C m : Str) (K : Frg) : Addr := match PySem.W.recIn K (He.ma K (He.ga K C) m) "property" with
  | some (.ref f :: _) => f
  | _ => 0
def prpB (C m : Str) : FaK := fun K => He.eqO (PySem.W.findIn K (.ref (He.ga K C)) m) (some (some (.ref (He.ma K (He.ga K C) m)))) &&
  (He.eqO (PySem.W.specialIn K (.ref (He.ma K (He.ga K C) m)) "__get__") (some (some (.builtin "property.__get__"))) &&
  (decide (PySem.W.takesIn K (.ref (He.ma K (He.ga K C) m)) = some true) && (match PySem.W.recIn K (He.ma K (He.ga K C) m) "property" with
    | some (.ref _ :: _) => true
    | _ => false)))
theorem prpB_ok {K : Frg} {C m : Str} (h : prpB C m K = true) : PySem.W.findIn K (.ref (He.ga K C)) m = some (some (.ref (He.ma K (He.ga K C) m))) ∧ PySem.W.specialIn K (.ref (He.ma K (He.ga K C) m)) "__get__" = some (some (.builtin "property.__get__")) ∧
    PySem.W.takesIn K (.ref (He.ma K (He.ga K C) m)) = some true ∧ ∃ rs, PySem.W.recIn K (He.ma K (He.ga K C) m) "property" = some (.ref (prA C m K) :: rs) := by
  obtain ⟨h1, h⟩ := He.ba h
  obtain ⟨h2, h⟩ := He.ba h
  obtain ⟨h3, h4⟩ := He.ba h
  refine ⟨He.eqO_ok h1, He.eqO_ok h2, of_decide_eq_true h3, ?_⟩
  unfold prA
  split at h4
  · rename_i f r e
    exact ⟨r, by rw [e]⟩
  · cases h4
def isiB (C : Str) : FaK := fun K => He.eqO (PySem.W.findIn K (.ref (He.ga K C)) "__class__") (some (some (.builtin "object.__class__"))) && (He.eqO (PySem.W.specialIn K (.builtin "object.__class__") "__get__") (some (some (.builtin "getset_descriptor.__get__"))) &&
  (decide (PySem.W.takesIn K (.builtin "object.__class__") = some true) && decide (PySem.W.mroIn K (He.ga K C) (.type "object") = some true)))
theorem isiB_ok {K : Frg} {C : Str} (h : isiB C K = true) : IsiC K (He.ga K C) := by
  obtain ⟨h1, h⟩ := He.ba h
  obtain ⟨h2, h⟩ := He.ba h
  obtain ⟨h3, h4⟩ := He.ba h
  exact ⟨He.eqO_ok h1, He.eqO_ok h2, of_decide_eq_true h3, of_decide_eq_true h4⟩
def excCB (C : Str) : FaK := fun K => He.eqO (PySem.W.findIn K (.ref (He.ga K C)) "__getattribute__") (some (some (.builtin "BaseException.__getattribute__"))) && (He.eqO (PySem.W.findIn K (.ref (He.ga K C)) "__getattr__") (some none) &&
  (decide (PySem.W.subIn K (.ref (He.ga K C)) (.type "BaseException") = some true) && (PySem.W.hasDictIn K (He.ga K C) && isiB C K)))
theorem excCB_ok {K : Frg} {C : Str} (h : excCB C K = true) : ExcC K (He.ga K C) := by
  obtain ⟨h1, h⟩ := He.ba h
  obtain ⟨h2, h⟩ := He.ba h
  obtain ⟨h3, h⟩ := He.ba h
  obtain ⟨h4, h⟩ := He.ba h
  obtain ⟨h5, h⟩ := He.ba h
  obtain ⟨h6, h⟩ := He.ba h
  obtain ⟨h7, h8⟩ := He.ba h
  exact ⟨He.eqO_ok h1, He.eqO_ok h2, of_decide_eq_true h3, h4, He.eqO_ok h5, He.eqO_ok h6, of_decide_eq_true h7, of_decide_eq_true h8⟩
def kitFB (D : Str) (c : Frg → Value) (b : Bool) : FaK := fun K => decide (PySem.W.kitOne K (.ref (He.ga K D)) (c K) = some b)
theorem kitFB_ok {K : Frg} {D : Str} {c : Frg → Value} {b : Bool} (h : kitFB D c b K = true) : PySem.W.kitOne K (.ref (He.ga K D)) (c K) = some b := of_decide_eq_true h
/-- a tuple of these -/
def tupK (a : Frg → Addr) (vs : List He.Dv) : FaK := fun K => match K.lookup (a K) with
  | some ⟨.type c, none, .seq its _, _⟩ => decide (c = "tuple") && (decide (its.size ≤ sizeLine) && He.relAll (vs.map (He.Dv.v K)) its.toList)
  | _ => false
theorem tupK_at {K : Frg} {a : Frg → Addr} {vs : List He.Dv} (h : tupK a vs K = true) : ∃ its n sl, K.lookup (a K) = some ⟨.type "tuple", none, .seq its n, sl⟩ ∧ its.size ≤ sizeLine ∧ Vals (vs.map (He.Dv.v K)) its.toList := by
  unfold tupK at h
  cases q : K.lookup (a K) with
  | none =>
    rw [q] at h
    cases h
  | some o =>
    obtain ⟨oc, od, dt, osl⟩ := o
    rw [q] at h
    cases oc with
    | type c =>
      cases od with
      | none =>
        cases dt with
        | seq its n =>
          obtain ⟨h1, h2⟩ := He.ba (show (decide (c = "tuple") && (decide (its.size ≤ sizeLine) && He.relAll (vs.map (He.Dv.v K)) its.toList)) = true from h)
          obtain ⟨h3, h4⟩ := He.ba h2
          refine ⟨its, n, osl, ?_, of_decide_eq_true h3, He.relAll_ok h4⟩
          rw [of_decide_eq_true h1]
        | _ => cases h
      | some d => cases dt <;> cases h
    | _ => cases od <;> cases dt <;> cases h
theorem tupK_ok {K : Frg} {a : Frg → Addr} {vs : List He.Dv} (h : tupK a vs K = true) (H : Hp) : SqT K H (a K) (vs.map (He.Dv.v K)) := by
  obtain ⟨its, n, sl, e, h1, h2⟩ := tupK_at h
  exact .inr ⟨_, its, n, e, rfl, rfl, h1, h2⟩
theorem tupK_cls {K : Frg} {a : Frg → Addr} {vs : List He.Dv} (h : tupK a vs K = true) : ∃ o, K.lookup (a K) = some o ∧ o.cls = .type "tuple" ∧ o.dict = none := by
  obtain ⟨its, n, sl, e, h1, h2⟩ := tupK_at h
  exact ⟨_, e, rfl, rfl⟩
/-- the i-th item of a tuple -/
def itK (a : Frg → Addr) (i : Nat) (K : Frg) : Addr := match K.lookup (a K) with
  | some ⟨_, _, .seq its _, _⟩ => (match its.toList[i]? with
    | some (.ref b) => b
    | _ => 0)
  | _ => 0
/-- the value of a key of text -/
def ikK (a : Frg → Addr) (k : Str) (K : Frg) : Addr := match PySem.W.nsIn K (a K) k with
  | some (some (.ref b)) => b
  | _ => 0
/-! ### dicts of ints -/
def eiB : List (Int × Int) → List DictEntry → Bool
  | [], [] => true
  | (k, v) :: r, ⟨h, .int k2 _, .int v2 _⟩ :: es => decide (h = hashInt k) && (decide (k2 = k) && (decide (v2 = v) && eiB r es))
  | _, _ => false
theorem eiB_ok : ∀ {kvs : List (Int × Int)} {es : List DictEntry}, eiB kvs es = true → EI kvs es
  | [], [], _ => .nil
  | [], _ :: _, h => by cases h
  | _ :: _, [], h => by cases h
  | (k, v) :: r, ⟨h0, kk, vv⟩ :: es, h => by
    cases kk with
    | int k2 t =>
      cases vv with
      | int v2 u =>
        obtain ⟨h1, h⟩ := He.ba (show (decide (h0 = hashInt k) && (decide (k2 = k) && (decide (v2 = v) && eiB r es))) = true from h)
        obtain ⟨h2, h⟩ := He.ba h
        obtain ⟨h3, h⟩ := He.ba h
        rw [of_decide_eq_true h1, of_decide_eq_true h2, of_decide_eq_true h3]
        exact .cons (eiB_ok h)
      | _ => cases h
    | _ => cases vv <;> cases h
def kdiB (a : Frg → Addr) (kvs : List (Int × Int)) : FaK := fun K => match K.lookup (a K) with
  | some ⟨.type c, none, .dict es _, sl⟩ => decide (c = "dict") && (sl.isEmpty && (!(a K == sysModules) && eiB kvs es.toList))
  | _ => false
theorem kdiB_ok {K : Frg} {a : Frg → Addr} {kvs : List (Int × Int)} (h : kdiB a kvs K = true) : KDI K (a K) kvs := by
  unfold kdiB at h
  cases q : K.lookup (a K) with
  | none =>
    rw [q] at h
    cases h
  | some o =>
    obtain ⟨oc, od, dt, osl⟩ := o
    rw [q] at h
    cases oc with
    | type c =>
      cases od with
      | none =>
        cases dt with
        | dict es n =>
          obtain ⟨h1, h2⟩ := He.ba (show (decide (c = "dict") && (osl.isEmpty && (!(a K == sysModules) && eiB kvs es.toList))) = true from h)
          obtain ⟨h3, h4⟩ := He.ba h2
          obtain ⟨h5, h6⟩ := He.ba h4
          refine ⟨es, n, ?_, ?_, eiB_ok h6⟩
          · rw [q, of_decide_eq_true h1, Array.isEmpty_iff.mp h3]
          · cases y : a K == sysModules with
            | false => rfl
            | true =>
              rw [y] at h5
              cases h5
        | _ => cases h
      | some b => cases dt <;> cases h
    | _ => cases od <;> cases dt <;> cases h
/-! ### dicts with text keys: the values -/
def valsL (K : Frg) (vs : List He.Dv) (es : List DictEntry) : Bool := He.relAll (vs.map (He.Dv.v K)) (es.map (·.val))
def dvB (a : Frg → Addr) (vs : List He.Dv) : FaK := fun K => match K.lookup (a K) with
  | some ⟨_, _, .dict es _, _⟩ => valsL K vs es.toList
  | _ => false
theorem dic_of {K : Frg} {P : Params} {a : Frg → Addr} {ks : List Str} {vs : List He.Dv} (h : He.dicW K (a K) = some (He.keysIn P ks)) (hv : dvB a vs K = true) :
    ∃ es n, K.lookup (a K) = some ⟨.type "dict", none, .dict es n, #[]⟩ ∧ es.toList.map He.keyOf = He.keysIn P ks ∧ Vals (vs.map (He.Dv.v K)) (es.toList.map (·.val)) := by
  unfold He.dicW at h
  unfold dvB at hv
  cases q : K.lookup (a K) with
  | none =>
    rw [q] at h
    cases h
  | some o =>
    obtain ⟨oc, od, dt, osl⟩ := o
    rw [q] at h hv
    cases oc with
    | type c =>
      cases od with
      | none =>
        cases dt with
        | dict es n =>
          have h1 : (match decide (c = "dict") && (osl.isEmpty && !(a K == sysModules)) with
            | true => some (es.toList.map He.keyOf)
            | false => none) = some (He.keysIn P ks) := h
          cases z : decide (c = "dict") && (osl.isEmpty && !(a K == sysModules)) with
          | false =>
            rw [z] at h1
            cases h1
          | true =>
            rw [z] at h1
            obtain ⟨z1, z2⟩ := He.ba z
            obtain ⟨z3, z4⟩ := He.ba z2
            refine ⟨es, n, ?_, Option.some.inj h1, He.relAll_ok hv⟩
            rw [of_decide_eq_true z1, Array.isEmpty_iff.mp z3]
        | _ => cases h
      | some b => cases dt <;> cases h
    | _ => cases od <;> cases dt <;> cases h
theorem fnD_ex {K : Frg} {x q : Str} {args : Arguments} {body : List Stmt} {sc : Scope} {kws : List (Str × V)} {f : Addr} {fd : FuncData} (F : FunD K x q args body sc [] kws f fd) : ∃ (kV doc : Value) (pm : Value) (an : Option Addr) (cdv ct : Value), fd = PySem.W.fnOf x q args body sc .none kV doc pm an cdv ct := by
  obtain ⟨oc, od, dV, kV, doc, pm, an, cdv, ct, osl, e, l, c, hd, _⟩ := F.ex
  rcases hd with ⟨_, e2⟩ | ⟨e2, _⟩
  · subst e2
    exact ⟨_, _, _, _, _, _, e⟩
  · exact absurd rfl e2
/-! ### positional defaults -/
theorem fnD_exP {K : PySem.W.Frag} {x q : Str} {args : Arguments} {body : List Stmt} {sc : Scope} {dvs : List V} {kws : List (Str × V)} {f : Addr} {fd : FuncData} (F : FunD K x q args body sc dvs kws f fd) : ∃ (dV kV doc : Value) (pm : Value) (an : Option Addr) (cdv ct : Value), fd = PySem.W.fnOf x q args body sc dV kV doc pm an cdv ct := by
  obtain ⟨oc, od, dV, kV, doc, pm, an, cdv, ct, osl, e, l, c, hd, _⟩ := F.ex
  exact ⟨_, _, _, _, _, _, _, e⟩
theorem Bnd.dfl {K : PySem.W.Frag} {x qual : Str} {params : Arguments} {body : List Stmt} {scope : Scope} {dvs : List V} {kws : List (Str × V)} {f : Addr} {fd : FuncData} {ps : List Str} (F : FunD K x qual params body scope dvs kws f fd) (n j : Nat) (hd : dvs ≠ [])
    (h : ∀ (T : Addr) (kV doc pm : Value) (an : Option Addr) (cdv ct : Value) (us its : List Value), us.length = n → its.length = dvs.length →
      ∃ k, bindArgs (PySem.W.fnOf x qual params body scope (.ref T) kV doc pm an cdv ct) ⟨us, []⟩ = seqItems? (.ref T) >>= k ∧ k (some its.toArray) = pure (ps.zip (us ++ its.drop j))) : Bnd K fd ps n [] (fun vs _ => vs ++ dvs.drop j) := by
  obtain ⟨oc, od, dV, kV, doc, pm, an, cdv, ct, osl, rfl, lk, hcd, hD, hK⟩ := F.ex
  rcases hD with ⟨e, _⟩ | ⟨_, T, o, its, m, rfl, lT, oT, rT⟩
  · exact absurd e hd
  · refine ⟨fun s us ws vs zs X hv hz rv rz => ⟨us ++ its.drop j, ?_, rv.append (rT.drop j)⟩⟩
    have hw : ws = [] := by
      have := rz.length
      rw [hz] at this
      exact List.eq_nil_of_length_eq_zero this.symm
    subst hw
    obtain ⟨k, e1, e2⟩ := h T kV doc pm an cdv ct us its (rv.length.symm.trans hv) rT.length.symm
    refine BindsTo.of_looks fun M => ?_
    show PySem.W.Looks M s.heap (bindArgs _ ⟨us, []⟩) _
    rw [e1]
    exact looks_items X lT oT (.of_pure e2)
/-! ### the law -/
theorem walkK {l : PySem.W.OpenLaw} {n k : Nat} {q : Program} {loose : List Str} {XP : (Str → Option Value) → Heap → Prop} {YP : World → Heap → Prop} {d : DefRec} {x : Str} (hn : l.most = some n) (hn2 : n ≤ sizeLine) (hdf : d.params.defaults = []) (room : Room k callerA)
    (F : ∀ (w : World) (mg : Str → Option Value) (fa : Addr) (h : Heap), YP w h → h.Ns mainGlobals mg → mg d.name = some (.ref fa) →
      ∃ (K : Frg) (fd : FuncData), K.In h ∧ (∀ (s : Shared) (u : Value), BindsTo s fd ⟨[u], []⟩ [(x, u)]) ∧ ∀ base : Heap, K.In base → base.Ns mainGlobals mg → FnG l.prog w K mg base CX0 k fa fd [x] (fun vs H Q _ => ∃ (a : Addr) (ns : List Int), vs = [.ref a] ∧ SqL K H a (ns.map V.int) ∧ ns.length ≤ n ∧ ∀ H', Q (.bl true) H')) :
    PySem.W.WalkO q loose XP YP l.row.toRowW d [] (fun f vs => PySem.call f vs) := by
  refine Att.attach_call hn hdf ?_
  intro w s₀ s₁ mg mb fa o pm cd doc a vs ns G Y _ _ _ hmg script whole short gens
  obtain ⟨K, fd, kin, bind, prom⟩ := F w mg fa _ Y G.T.g hmg
  obtain ⟨H, base, seq, kinB, nsB, env, fin⟩ := law_start (P := l.prog) (w := w) kin G.T.g G.T.b G.T.builtins G.T.nolimit gens script whole (Nat.le_trans short hn2)
  refine codeAny_mono ((prom base kinB nsB).run callerA [] s₁ H ⟨[.ref a], []⟩ [.ref a] [.ref a] (fun v _ => v = .bl true) (fun _ _ _ => False) ⟨room, rfl⟩ env (bind s₁ (.ref a)) (.cons rfl .nil) ⟨a, ns, rfl, seq, short, fun _ => rfl⟩) ?_
  intro r s2 out
  cases r with
  | error e => exact out.elim
  | ok flow =>
    cases flow with
    | ret u =>
      obtain ⟨⟨v, rv, z⟩, h1, h2, h3⟩ := fin (fun v => v = .bl true) u s2 out
      subst z
      obtain rfl : u = Value.bool true := rv
      exact ⟨rfl, h1, h2, h3⟩
    | next => exact out.elim
    | brk => exact out.elim
    | cont => exact out.elim
end Vx
namespace Vx
open PySem PySem.Spec PyProof.Rows L2
theorem es_of {P : Params} : ∀ {kvs : List (Str × Int)} {es : List DictEntry}, es.map He.keyOf = He.keysIn P (kvs.map (·.1)) → Vals (kvs.map fun q => V.int q.2) (es.map (·.val)) → ES P kvs es
  | [], [], _, _ => .nil
  | [], _ :: _, h, _ => by cases h
  | _ :: _, [], h, _ => by cases h
  | (k, v) :: r, e :: es, h, hv => by
    have h1 : He.keyOf e :: es.map He.keyOf = some (k, PyData.keyHash P k) :: He.keysIn P (r.map (·.1)) := h
    injection h1 with h2 h3
    obtain ⟨hh, kk, vv⟩ := e
    cases hv with
    | cons r1 r2 =>
      obtain ⟨u, e1⟩ := r1
      have e1 : vv = .int v u := e1
      subst e1
      unfold He.keyOf at h2
      cases kk with
      | str x t =>
        have h4 := Option.some.inj h2
        obtain ⟨h5, h6⟩ := Prod.mk.inj h4
        subst h5
        exact .cons h6 (es_of h3 r2)
      | _ => cases h2
theorem kds_of {K : Frg} {w : World} {a : Frg → Addr} {kvs : List (Str × Int)} (h : He.dicW K (a K) = some (He.keysIn w.params (kvs.map (·.1)))) (hv : dvB a (kvs.map fun q => .int q.2) K = true) : KDS K w (a K) kvs := by
  obtain ⟨es, n, e, k, v⟩ := dic_of h hv
  refine ⟨es, n, e, es_of k ?_⟩
  rw [List.map_map] at v
  exact v
end Vx
namespace Vx
open PySem PySem.Spec PyProof.Rows L2
structure St_BitWriter where
  full : (List Int)
  rest : Int
  bits : Int
deriving DecidableEq
structure St_BitReader where
  octs : (List Int)
  place : Int
  stop : Int
deriving DecidableEq
def F__law_draws_b1 (free_15 : Bool) (found_33 : (List Int)) (rest_34 : Int) (state_35 : Int) (it38 : Int) : Rx ((List Int) × Int × Int) :=
  (if free_15 = true then (if 1 < rest_34 then grd (0 < (it38 : Int)) <| grd ((found_33).length ≤ 1000000) <| bnd ((found_33) ++ [(rest_34 % it38)]) fun y49 => grd (0 < (it38 : Int) ∧ (it38 : Int) < 2 ^ 128) <| bnd ((rest_34 / it38)) fun rest_51 => .ok ((y49), (rest_51), (state_35)) else bnd ((((state_35 * 48271) + 11) % 2147483647)) fun state_52 => bnd ((((state_52 * 69621) + 7) % 2147483647)) fun state_53 => grd (0 < (it38 : Int)) <| grd ((found_33).length ≤ 1000000) <| bnd ((found_33) ++ [((state_53 / 13) % it38)]) fun y62 => .ok ((y62), (rest_34), (state_53))) else bnd ((((state_35 * 48271) + 11) % 2147483647)) fun state_63 => bnd ((((state_63 * 69621) + 7) % 2147483647)) fun state_64 => grd (0 < (it38 : Int)) <| grd ((found_33).length ≤ 1000000) <| bnd ((found_33) ++ [((state_64 / 13) % it38)]) fun y73 => .ok ((y73), (rest_34), (state_64)))

def F__law_draws_r1 (found_79 : (List Int)) (rest_80 : Int) (state_81 : Int) : Rx (List Int) :=
  .ok (found_79)

def F__law_draws (cell' : Int) (limits' : (List Int)) : Rx (List Int) :=
  bnd ((if cell' < 0 then -cell' else cell')) fun rest_10 => bnd ((rest_10 % 2147483647)) fun state_11 => bnd ((decide (cell' < 0) || decide (((10 : Int) ^ Int.toNat 18) ≤ cell'))) fun free_14 => Rx.bind (forS (limits') ((([] : (List Int))), (rest_10), (state_11)) (fun s x => F__law_draws_b1 (free_14) (s.1) (s.2.1) (s.2.2) x)) fun s => F__law_draws_r1  (s.1) (s.2.1) (s.2.2)

def F_BitWriter___init__  : Rx St_BitWriter :=
  .ok (⟨([] : (List Int)), 0, 0⟩ : St_BitWriter)

def F__law_bits_c1 (value_112 : Int) (count_113 : Int) (it142 : Int) : Rx Int :=
  grd ((0 : Int) ≤ ((count_113 - 1) - it142)) <| .ok ((PySem.Builtin.bitAnd ((value_112 / 2 ^ Int.toNat (((count_113 - 1) - it142)))) (1)))

def F__law_bits (value' : Int) (count' : Int) : Rx (List Int) :=
  grd (-(2 ^ 62) ≤ (count' : Int) ∧ (count' : Int) < 2 ^ 62) <| Rx.bind (mapA (rng (0) (Int.toNat (count'))) [] (fun x => noEr (F__law_bits_c1 (value') (count') x))) fun v114 => .ok (v114)

def F__last_bit_r1 (bits_177 : Int) : Rx Int :=
  .ok (bits_177)

def F__last_bit_b1 (octet_162 : Int) (bits_171 : Int) : Rx (Lp (Int) Int) :=
  grd ((0 : Int) ≤ (bits_171 - 1)) <| (if ((PySem.Builtin.bitAnd ((octet_162 / 2 ^ Int.toNat ((bits_171 - 1)))) (1)) : Int) = 0 then bnd ((bits_171 + 1)) fun bits_176 => .ok (.go (bits_176)) else .ok (.bk (bits_171)))

def F__last_bit (octet' : Int) : Rx Int :=
  Rx.bind ((whileR 1000000 (1) (fun s => F__last_bit_b1 (octet') s) : Rx (Lp (Int) Int))) fun l => l.aft Rx.ok fun s => F__last_bit_r1  s

def F_BitReader___init__ (octets' : (List Int)) : Rx St_BitReader :=
  (if (octets' : (List Int)) = [] then .er 3 else grd (-((octets' : (List Int)).length : Int) ≤ (-1) ∧ (-1) < ((octets' : (List Int)).length : Int)) <| (if ((itD (octets') ((-1))) : Int) = 0 then .er 3 else grd (-((octets' : (List Int)).length : Int) ≤ (-1) ∧ (-1) < ((octets' : (List Int)).length : Int)) <| Rx.bind (F__last_bit ((itD (octets') ((-1))))) fun v204 => bnd (((8 * (((octets') : (List Int)).length : Int)) - v204)) fun _end_209 => .ok (⟨octets', 0, _end_209⟩ : St_BitReader)))

def F__law_cell (script' : (List Int)) (k' : Int) : Rx Int :=
  (if k' < (((script') : (List Int)).length : Int) then grd (-((script' : (List Int)).length : Int) ≤ k' ∧ k' < ((script' : (List Int)).length : Int)) <| .ok ((itD (script') (k'))) else .ok (0))

def F_BitWriter__add_r1 (self_253 : St_BitWriter) (rest_254 : Int) (left_255 : Int) : Rx St_BitWriter :=
  .ok (⟨self_253.full, rest_254, left_255⟩ : St_BitWriter)

def F_BitWriter__add_b1 (self_234 : St_BitWriter) (rest_235 : Int) (left_236 : Int) : Rx (Lp (St_BitWriter × Int × Int) St_BitWriter) :=
  (if 8 ≤ left_236 then bnd ((left_236 - 8)) fun left_240 => grd ((0 : Int) ≤ left_240) <| grd ((self_234.full).length ≤ 1000000) <| bnd ((self_234.full) ++ [(rest_235 / 2 ^ Int.toNat (left_240))]) fun y249 => grd ((0 : Int) ≤ left_240 ∧ (left_240 : Int) ≤ 4096 ∧ -(2 ^ 4096) < (1 : Int) ∧ (1 : Int) < 2 ^ 4096) <| bnd ((PySem.Builtin.bitAnd (rest_235) (((1 * 2 ^ Int.toNat (left_240)) - 1)))) fun rest_251 => .ok (.go (((⟨y249, self_234.rest, self_234.bits⟩ : St_BitWriter)), (rest_251), (left_240))) else .ok (.bk ((self_234), (rest_235), (left_236))))

def F_BitWriter__add (self' : St_BitWriter) (value' : Int) (count' : Int) : Rx St_BitWriter :=
  grd ((0 : Int) ≤ count' ∧ (count' : Int) ≤ 4096 ∧ -(2 ^ 4096) < (self'.rest : Int) ∧ (self'.rest : Int) < 2 ^ 4096) <| bnd ((PySem.Builtin.bitOr ((self'.rest * 2 ^ Int.toNat (count'))) (value'))) fun rest_220 => bnd ((self'.bits + count')) fun left_221 => Rx.bind ((whileR 1000000 ((self'), (rest_220), (left_221)) (fun s => F_BitWriter__add_b1  (s.1) (s.2.1) (s.2.2)) : Rx (Lp (St_BitWriter × Int × Int) St_BitWriter))) fun l => l.aft Rx.ok fun s => F_BitWriter__add_r1  (s.1) (s.2.1) (s.2.2)

def F_BitWriter_put (self' : St_BitWriter) (value' : Int) (count' : Int) : Rx St_BitWriter :=
  (if 0 ≤ count' then (if count' ≤ 64 then (if 0 ≤ value' then grd ((0 : Int) ≤ count' ∧ (count' : Int) ≤ 4096 ∧ -(2 ^ 4096) < (1 : Int) ∧ (1 : Int) < 2 ^ 4096) <| (if value' < (1 * 2 ^ Int.toNat (count')) then Rx.bind (F_BitWriter__add (self') value' count') fun v274 => .ok v274 else .er 1) else .er 1) else .er 1) else .er 1)

def F_BitWriter_octets (self' : St_BitWriter) : Rx (List Int) :=
  bnd ((7 - self'.bits)) fun free_284 => grd ((0 : Int) ≤ free_284 ∧ (free_284 : Int) ≤ 4096 ∧ -(2 ^ 4096) < (((2 * self'.rest) + 1) : Int) ∧ (((2 * self'.rest) + 1) : Int) < 2 ^ 4096) <| grd ((self'.full).length + ([(((2 * self'.rest) + 1) * 2 ^ Int.toNat (free_284))]).length ≤ 1000000) <| .ok ((self'.full) ++ ([(((2 * self'.rest) + 1) * 2 ^ Int.toNat (free_284))]))

def F_BitWriter_put_ue (self' : St_BitWriter) (value' : Int) : Rx St_BitWriter :=
  (if 0 ≤ value' then (if value' ≤ 4294967296 then bnd (((PySem.Builtin.Int.intBits ((value' + 1)) : Nat) : Int)) fun digits_307 => Rx.bind (F_BitWriter__add (self') ((value' + 1)) (((2 * digits_307) - 1))) fun v308 => .ok v308 else .er 1) else .er 1)

def F_BitWriter_put_se (self' : St_BitWriter) (value' : Int) : Rx St_BitWriter :=
  Rx.bind (F_BitWriter_put_ue (self') ((if 0 < value' then ((2 * value') - 1) else ((-2) * value')))) fun v321 => .ok v321

def F__law_put_refused (writer' : St_BitWriter) (kind' : Int) (value' : Int) (count' : Int) : Rx (Bool × St_BitWriter) :=
  Rx.bind (F_BitWriter_octets (writer')) fun v331 => (if (kind' : Int) = 0 then tryR (F_BitWriter_put (writer') value' count') [1] (fun v343 => (if (kind' : Int) = 1 then .bad else (if (kind' : Int) = 2 then .bad else .ok (false, v343)))) (fun _ => Rx.bind (F_BitWriter_octets (writer')) fun v374 => .ok (decide ((v374 : (List Int)) = v331), writer')) else (if (kind' : Int) = 1 then tryR (F_BitWriter_put_ue (writer') value') [1] (fun v389 => (if (kind' : Int) = 2 then .bad else .ok (false, v389))) (fun _ => Rx.bind (F_BitWriter_octets (writer')) fun v419 => .ok (decide ((v419 : (List Int)) = v331), writer')) else (if (kind' : Int) = 2 then tryR (F_BitWriter_put_se (writer') value') [1] (fun v434 => .ok (false, v434)) (fun _ => Rx.bind (F_BitWriter_octets (writer')) fun v463 => .ok (decide ((v463 : (List Int)) = v331), writer')) else .ok (false, writer'))))

def F__law_packed_c2 (bits_560 : (List Int)) (k_561 : Int) (it594 : Int) : Rx Int :=
  grd (-((bits_560 : (List Int)).length : Int) ≤ ((8 * k_561) + it594) ∧ ((8 * k_561) + it594) < ((bits_560 : (List Int)).length : Int)) <| grd ((0 : Int) ≤ (7 - it594) ∧ ((7 - it594) : Int) ≤ 4096 ∧ -(2 ^ 4096) < ((itD (bits_560) (((8 * k_561) + it594))) : Int) ∧ ((itD (bits_560) (((8 * k_561) + it594))) : Int) < 2 ^ 4096) <| .ok (((itD (bits_560) (((8 * k_561) + it594))) * 2 ^ Int.toNat ((7 - it594))))

def F__law_packed_c1 (bits_528 : (List Int)) (it559 : Int) : Rx Int :=
  Rx.bind (mapA (rng (0) (Int.toNat (8))) [] (fun x => noEr (F__law_packed_c2 (bits_528) (it559) x))) fun v562 => .ok ((List.sum (v562)))

def F__law_packed (bits' : (List Int)) : Rx (List Int) :=
  grd ((bits' : (List Int)).length + ([1] : (List Int)).length ≤ 1000000) <| grd (-(2 ^ 63) ≤ (((8 - (((((bits') ++ ([1])) : (List Int)).length : Int) % 8)) % 8) : Int) ∧ (((8 - (((((bits') ++ ([1])) : (List Int)).length : Int) % 8)) % 8) : Int) < 2 ^ 63 ∧ ([0]).length * Int.toNat (((8 - (((((bits') ++ ([1])) : (List Int)).length : Int) % 8)) % 8)) ≤ 1000000) <| grd (((bits') ++ ([1]) : (List Int)).length + (repL ([0]) (((8 - (((((bits') ++ ([1])) : (List Int)).length : Int) % 8)) % 8)) : (List Int)).length ≤ 1000000) <| grd (-(2 ^ 62) ≤ (((((((bits') ++ ([1])) ++ (repL ([0]) (((8 - (((((bits') ++ ([1])) : (List Int)).length : Int) % 8)) % 8)))) : (List Int)).length : Int) / 8) : Int) ∧ (((((((bits') ++ ([1])) ++ (repL ([0]) (((8 - (((((bits') ++ ([1])) : (List Int)).length : Int) % 8)) % 8)))) : (List Int)).length : Int) / 8) : Int) < 2 ^ 62) <| Rx.bind (mapA (rng (0) (Int.toNat (((((((bits') ++ ([1])) ++ (repL ([0]) (((8 - (((((bits') ++ ([1])) : (List Int)).length : Int) % 8)) % 8)))) : (List Int)).length : Int) / 8)))) [] (fun x => noEr (F__law_packed_c1 (((bits') ++ ([1])) ++ (repL ([0]) (((8 - (((((bits') ++ ([1])) : (List Int)).length : Int) % 8)) % 8)))) x))) fun v529 => .ok (v529)

def F_BitWriter_length (self' : St_BitWriter) : Rx Int :=
  .ok (((8 * (((self'.full) : (List Int)).length : Int)) + self'.bits))

def F__law_octets_refused (octets' : (List Int)) : Rx Bool :=
  tryR (F_BitReader___init__ (octets')) [3] (fun v659 => .ok (false)) (fun _ => .ok (decide ((octets' : (List Int)) = octets')))

def F_BitReader__look_b1 (value_703 : Int) (it706 : Int) : Rx (Int) :=
  grd ((0 : Int) ≤ 8 ∧ (8 : Int) ≤ 4096 ∧ -(2 ^ 4096) < (value_703 : Int) ∧ (value_703 : Int) < 2 ^ 4096) <| bnd ((PySem.Builtin.bitOr ((value_703 * 2 ^ Int.toNat (8))) (it706))) fun value_708 => .ok (value_708)

def F_BitReader__look_r1 (count_686 : Int) (end_687 : Int) (value_714 : Int) : Rx Int :=
  grd ((0 : Int) ≤ (PySem.Builtin.bitAnd ((-end_687)) (7))) <| grd ((0 : Int) ≤ count_686 ∧ (count_686 : Int) ≤ 4096 ∧ -(2 ^ 4096) < (1 : Int) ∧ (1 : Int) < 2 ^ 4096) <| .ok ((PySem.Builtin.bitAnd ((value_714 / 2 ^ Int.toNat ((PySem.Builtin.bitAnd ((-end_687)) (7))))) (((1 * 2 ^ Int.toNat (count_686)) - 1))))

def F_BitReader__look (self' : St_BitReader) (place' : Int) (count' : Int) : Rx Int :=
  bnd ((place' + count')) fun end_675 => (if self'.stop < end_675 then .er 2 else Rx.bind (forS (cutL (self'.octs) (some ((place' / 8))) (some (((end_675 + 7) / 8)))) (0) (fun s x => F_BitReader__look_b1  s x)) fun s => F_BitReader__look_r1 (count') (end_675) s)

def F_BitReader__take (self' : St_BitReader) (count' : Int) : Rx (Int × St_BitReader) :=
  Rx.bind (F_BitReader__look (self') self'.place count') fun v717 => bnd ((self'.place + count')) fun _place_722 => .ok (v717, (⟨self'.octs, _place_722, self'.stop⟩ : St_BitReader))

def F_BitReader_get (self' : St_BitReader) (count' : Int) : Rx (Int × St_BitReader) :=
  (if 0 ≤ count' then (if count' ≤ 64 then Rx.bind (F_BitReader__take (self') count') fun v732 => .ok (v732.1, v732.2) else .er 1) else .er 1)

def F_BitReader_left (self' : St_BitReader) : Rx Int :=
  .ok ((self'.stop - self'.place))

def F__law_get_refused (reader' : St_BitReader) (count' : Int) : Rx (Bool × St_BitReader) :=
  Rx.bind (noEr (F_BitReader_left (reader'))) fun v742 => tryR (F_BitReader_get (reader') count') [1, 2] (fun v748 => .ok (false, v748.2)) (fun e => (if e = 1 then (if 0 ≤ count' then (if (!decide (count' ≤ 64)) = true then Rx.bind (noEr (F_BitReader_left (reader'))) fun v767 => .ok (decide ((v767 : Int) = v742), reader') else .ok (false, reader')) else Rx.bind (noEr (F_BitReader_left (reader'))) fun v777 => .ok (decide ((v777 : Int) = v742), reader')) else (if v742 < count' then (if decide (count' ≤ 64) = true then Rx.bind (noEr (F_BitReader_left (reader'))) fun v789 => .ok (decide ((v789 : Int) = v742), reader') else .ok (false, reader')) else .ok (false, reader'))))

def F_law_b1 (writer_1020 : St_BitWriter) (it1023 : (Int × Int × Int)) : Rx (Lp (St_BitWriter) Bool) :=
  Rx.bind (F__law_put_refused (writer_1020) it1023.1 it1023.2.1 it1023.2.2) fun v1024 => (if v1024.1 = true then .ok (.go (v1024.2)) else .ok (.rt (false)))

def F_law_b2 (writer_1152 : St_BitWriter) (it1155 : (Int × Int)) : Rx (Lp (St_BitWriter) Bool) :=
  Rx.bind (F__law_put_refused (writer_1152) it1155.1 it1155.2 0) fun v1156 => (if v1156.1 = true then .ok (.go (v1156.2)) else .ok (.rt (false)))

def F_law_c3 (bits_1312 : (List Int)) (taken_1313 : Int) (it1358 : Int) : Rx Int :=
  grd (-((bits_1312 : (List Int)).length : Int) ≤ it1358 ∧ it1358 < ((bits_1312 : (List Int)).length : Int)) <| grd ((0 : Int) ≤ ((taken_1313 - 1) - it1358) ∧ (((taken_1313 - 1) - it1358) : Int) ≤ 4096 ∧ -(2 ^ 4096) < ((itD (bits_1312) (it1358)) : Int) ∧ ((itD (bits_1312) (it1358)) : Int) < 2 ^ 4096) <| .ok (((itD (bits_1312) (it1358)) * 2 ^ Int.toNat (((taken_1313 - 1) - it1358))))

def F_law_b4 (left_1408 : Int) (reader_1454 : St_BitReader) (it1457 : Int) : Rx (Lp (St_BitReader) Bool) :=
  (if left_1408 < it1457 then Rx.bind (F__law_get_refused (reader_1454) it1457) fun v1459 => (if v1459.1 = true then .ok (.go (v1459.2)) else .ok (.rt (false))) else (if it1457 < 0 then Rx.bind (F__law_get_refused (reader_1454) it1457) fun v1478 => (if v1478.1 = true then .ok (.go (v1478.2)) else .ok (.rt (false))) else .ok (.go (reader_1454))))

def F_law_b5 (size_1561 : Int) (long_1611 : St_BitReader) (it1614 : Int) : Rx (Lp (St_BitReader) Bool) :=
  Rx.bind (F__law_get_refused (long_1611) it1614) fun v1615 => (if v1615.1 = true then Rx.bind (noEr (F_BitReader_left (v1615.2))) fun v1626 => (if (v1626 : Int) = (size_1561 + 64) then .ok (.go (v1615.2)) else .ok (.rt (false))) else .ok (.rt (false)))

def F_law_c6 (bits_1676 : (List Int)) (taken_1677 : Int) (left_1678 : Int) (it1727 : Int) : Rx Int :=
  grd (-((bits_1676 : (List Int)).length : Int) ≤ (taken_1677 + it1727) ∧ (taken_1677 + it1727) < ((bits_1676 : (List Int)).length : Int)) <| grd ((0 : Int) ≤ ((left_1678 - 1) - it1727) ∧ (((left_1678 - 1) - it1727) : Int) ≤ 4096 ∧ -(2 ^ 4096) < ((itD (bits_1676) ((taken_1677 + it1727))) : Int) ∧ ((itD (bits_1676) ((taken_1677 + it1727))) : Int) < 2 ^ 4096) <| .ok (((itD (bits_1676) ((taken_1677 + it1727))) * 2 ^ Int.toNat (((left_1678 - 1) - it1727))))

def F_law_r5 (bits_1562 : (List Int)) (reader_1563 : St_BitReader) (taken_1564 : Int) (left_1565 : Int) (long_1657 : St_BitReader) : Rx Bool :=
  Rx.bind (noEr (F_BitReader_left (reader_1563))) fun v1658 => (if decide ((v1658 : Int) = left_1565) = true then Rx.bind (F_BitReader_get (reader_1563) left_1565) fun v1665 => grd (-(2 ^ 62) ≤ (left_1565 : Int) ∧ (left_1565 : Int) < 2 ^ 62) <| Rx.bind (mapA (rng (0) (Int.toNat (left_1565))) [] (fun x => noEr (F_law_c6 (bits_1562) (taken_1564) (left_1565) x))) fun v1679 => .ok (decide ((v1665.1 : Int) = (List.sum (v1679)))) else .ok (false))

def F_law_r4 (draws_1409 : (List Int)) (writer_1410 : St_BitWriter) (size_1411 : Int) (bits_1412 : (List Int)) (taken_1413 : Int) (left_1414 : Int) (reader_1509 : St_BitReader) : Rx Bool :=
  Rx.bind (F_BitWriter_put (writer_1410) 5 64) fun v1510 => Rx.bind (F_BitWriter_octets (v1510)) fun v1520 => Rx.bind (F_BitReader___init__ (v1520)) fun v1541 => grd (-((draws_1409 : (List Int)).length : Int) ≤ 4 ∧ 4 < ((draws_1409 : (List Int)).length : Int)) <| Rx.bind (forR ([65, (65 + ((itD (draws_1409) (4)) % 40)), (-1)]) (v1541) (fun s x => F_law_b5 (size_1411) s x)) fun l => l.aft Rx.ok fun s => F_law_r5 (bits_1412) (reader_1509) (taken_1413) (left_1414) s

def F_law_r2 (script_1113 : (List Int)) (draws_1114 : (List Int)) (size_1115 : Int) (bits_1116 : (List Int)) (count_1117 : Int) (writer_1179 : St_BitWriter) : Rx Bool :=
  Rx.bind (F_BitWriter_octets (writer_1179)) fun v1180 => Rx.bind (F__law_packed (bits_1116)) fun v1190 => (if (v1180 : (List Int)) = v1190 then Rx.bind (noEr (F_BitWriter_length (writer_1179))) fun v1203 => (if (v1203 : Int) = size_1115 then Rx.bind (F__law_cell (script_1113) 1) fun v1208 => Rx.bind (F__law_draws v1208 ([5, 256, 256, 256, 256])) fun v1218 => grd (-((v1218 : (List Int)).length : Int) ≤ 0 ∧ 0 < ((v1218 : (List Int)).length : Int)) <| grd ((cutL (v1218) (some (1)) (some ((1 + (itD (v1218) (0)))))).length + ([0]).length ≤ 1000000) <| Rx.bind (F__law_octets_refused ((cutL (v1218) (some (1)) (some ((1 + (itD (v1218) (0)))))) ++ ([0]))) fun v1257 => (if v1257 = true then Rx.bind (F__law_octets_refused (([] : (List Int)))) fun v1271 => (if v1271 = true then Rx.bind (F_BitReader___init__ (v1180)) fun v1288 => grd (-((draws_1114 : (List Int)).length : Int) ≤ 5 ∧ 5 < ((draws_1114 : (List Int)).length : Int)) <| grd (0 < ((size_1115 + 1) : Int)) <| bnd (((itD (draws_1114) (5)) % (size_1115 + 1))) fun taken_1300 => Rx.bind (F_BitReader_get (v1288) taken_1300) fun v1301 => grd (-(2 ^ 62) ≤ (taken_1300 : Int) ∧ (taken_1300 : Int) < 2 ^ 62) <| Rx.bind (mapA (rng (0) (Int.toNat (taken_1300))) [] (fun x => noEr (F_law_c3 (bits_1116) (taken_1300) x))) fun v1314 => (if (v1301.1 : Int) = (List.sum (v1314)) then bnd ((size_1115 - taken_1300)) fun left_1396 => grd (-((draws_1114 : (List Int)).length : Int) ≤ 4 ∧ 4 < ((draws_1114 : (List Int)).length : Int)) <| grd (-((draws_1114 : (List Int)).length : Int) ≤ 4 ∧ 4 < ((draws_1114 : (List Int)).length : Int)) <| Rx.bind (forR ([(left_1396 + 1), 64, 65, (-1), (66 + (itD (draws_1114) (4))), ((-2) - (itD (draws_1114) (4)))]) (v1301.2) (fun s x => F_law_b4 (left_1396) s x)) fun l => l.aft Rx.ok fun s => F_law_r4 (draws_1114) (writer_1179) (size_1115) (bits_1116) (taken_1300) (left_1396) s else .ok (false)) else .ok (false)) else .ok (false)) else .ok (false)) else .ok (false))

def F_law_r1 (script_979 : (List Int)) (draws_980 : (List Int)) (size_981 : Int) (bits_982 : (List Int)) (count_983 : Int) (writer_1047 : St_BitWriter) : Rx Bool :=
  grd (-((draws_980 : (List Int)).length : Int) ≤ 4 ∧ 4 < ((draws_980 : (List Int)).length : Int)) <| grd (-((draws_980 : (List Int)).length : Int) ≤ 4 ∧ 4 < ((draws_980 : (List Int)).length : Int)) <| grd (-((draws_980 : (List Int)).length : Int) ≤ 4 ∧ 4 < ((draws_980 : (List Int)).length : Int)) <| grd (-((draws_980 : (List Int)).length : Int) ≤ 4 ∧ 4 < ((draws_980 : (List Int)).length : Int)) <| Rx.bind (forR ([(1, ((-1) - (itD (draws_980) (4)))), (1, ((4294967296 + 1) + (itD (draws_980) (4)))), (2, ((2147483648 + 1) + (itD (draws_980) (4)))), (2, (((-2147483648) - 1) - (itD (draws_980) (4))))]) (writer_1047) (fun s x => F_law_b2  s x)) fun l => l.aft Rx.ok fun s => F_law_r2 (script_979) (draws_980) (size_981) (bits_982) (count_983) s

def F_law (script' : (List Int)) : Rx Bool :=
  Rx.bind (F__law_cell (script') 0) fun v799 => Rx.bind (F__law_draws v799 ([41, 1099511627776, 65, 3, 4294967296, 65])) fun v809 => Rx.bind F_BitWriter___init__ fun v829 => grd (-((v809 : (List Int)).length : Int) ≤ 0 ∧ 0 < ((v809 : (List Int)).length : Int)) <| bnd ((itD (v809) (0))) fun size_840 => grd (-((v809 : (List Int)).length : Int) ≤ 1 ∧ 1 < ((v809 : (List Int)).length : Int)) <| grd ((0 : Int) ≤ size_840 ∧ (size_840 : Int) ≤ 4096 ∧ -(2 ^ 4096) < (1 : Int) ∧ (1 : Int) < 2 ^ 4096) <| grd (0 < ((1 * 2 ^ Int.toNat (size_840)) : Int)) <| Rx.bind (F__law_bits (((itD (v809) (1)) % (1 * 2 ^ Int.toNat (size_840)))) size_840) fun v844 => grd (-((v809 : (List Int)).length : Int) ≤ 1 ∧ 1 < ((v809 : (List Int)).length : Int)) <| grd ((0 : Int) ≤ size_840 ∧ (size_840 : Int) ≤ 4096 ∧ -(2 ^ 4096) < (1 : Int) ∧ (1 : Int) < 2 ^ 4096) <| grd (0 < ((1 * 2 ^ Int.toNat (size_840)) : Int)) <| Rx.bind (F_BitWriter_put (v829) (((itD (v809) (1)) % (1 * 2 ^ Int.toNat (size_840)))) size_840) fun v859 => grd (-((v809 : (List Int)).length : Int) ≤ 2 ∧ 2 < ((v809 : (List Int)).length : Int)) <| bnd ((itD (v809) (2))) fun count_871 => grd ((0 : Int) ≤ count_871 ∧ (count_871 : Int) ≤ 4096 ∧ -(2 ^ 4096) < (1 : Int) ∧ (1 : Int) < 2 ^ 4096) <| grd (-((v809 : (List Int)).length : Int) ≤ 4 ∧ 4 < ((v809 : (List Int)).length : Int)) <| grd ((0 : Int) ≤ 64 ∧ (64 : Int) ≤ 4096 ∧ -(2 ^ 4096) < (1 : Int) ∧ (1 : Int) < 2 ^ 4096) <| grd ((0 : Int) ≤ 64 ∧ (64 : Int) ≤ 4096 ∧ -(2 ^ 4096) < (1 : Int) ∧ (1 : Int) < 2 ^ 4096) <| grd (-((v809 : (List Int)).length : Int) ≤ 4 ∧ 4 < ((v809 : (List Int)).length : Int)) <| grd ((0 : Int) ≤ count_871 ∧ (count_871 : Int) ≤ 4096 ∧ -(2 ^ 4096) < (1 : Int) ∧ (1 : Int) < 2 ^ 4096) <| grd (-((v809 : (List Int)).length : Int) ≤ 4 ∧ 4 < ((v809 : (List Int)).length : Int)) <| grd (-((v809 : (List Int)).length : Int) ≤ 4 ∧ 4 < ((v809 : (List Int)).length : Int)) <| grd (-((v809 : (List Int)).length : Int) ≤ 4 ∧ 4 < ((v809 : (List Int)).length : Int)) <| Rx.bind (forR ([(0, ((1 * 2 ^ Int.toNat (count_871)) + (itD (v809) (4))), count_871), (0, (1 * 2 ^ Int.toNat (64)), 64), (0, ((1 * 2 ^ Int.toNat (64)) + (itD (v809) (4))), 64), (0, (1 * 2 ^ Int.toNat (count_871)), count_871), (0, ((-1) - (itD (v809) (4))), count_871), (0, 0, (65 + (itD (v809) (4)))), (0, 0, ((-1) - (itD (v809) (4))))]) (v859) (fun s x => F_law_b1  s x)) fun l => l.aft Rx.ok fun s => F_law_r1 (script') (v809) (size_840) (v844) (count_871) s
theorem cell_gv (s : List Int) (k : Int) (h : 0 ≤ k) : Gv (F__law_cell s k) (fun _ => True) := by
  unfold F__law_cell
  exact Gv.ite (fun c => Gv.grd ⟨by omega, c⟩ (.ok trivial)) fun _ => .ok trivial
def Inb : List Int → List Int → Prop
  | [], [] => True
  | v :: vs, l :: ls => 0 ≤ v ∧ v < l ∧ Inb vs ls
  | _, _ => False
theorem Inb.snoc : ∀ {vs ls : List Int} {y l : Int}, Inb vs ls → 0 ≤ y → y < l → Inb (vs ++ [y]) (ls ++ [l])
  | [], [], _, _, _, h0, h1 => ⟨h0, h1, trivial⟩
  | _ :: _, _ :: _, _, _, h, h0, h1 => ⟨h.1, h.2.1, Inb.snoc h.2.2 h0 h1⟩
  | [], _ :: _, _, _, h, _, _ => h.elim
  | _ :: _, [], _, _, h, _, _ => h.elim
theorem Inb.len : ∀ {vs ls : List Int}, Inb vs ls → vs.length = ls.length
  | [], [], _ => rfl
  | _ :: _, _ :: _, h => congrArg Nat.succ (Inb.len h.2.2)
  | [], _ :: _, h => h.elim
  | _ :: _, [], h => h.elim
theorem Inb.cons {v ls : List Int} {l : Int} (h : Inb v (l :: ls)) : ∃ a r, v = a :: r ∧ 0 ≤ a ∧ a < l ∧ Inb r ls := by
  cases v with
  | nil => exact h.elim
  | cons a r => exact ⟨a, r, rfl, h.1, h.2.1, h.2.2⟩
theorem Inb.nil {v : List Int} (h : Inb v []) : v = [] := by
  cases v with
  | nil => rfl
  | cons a r => exact h.elim
theorem draws_gv (cell : Int) (limits : List Int) (hl : ∀ l ∈ limits, 0 < l ∧ l < 18446744073709551616) (hn : limits.length ≤ 1000000) : Gv (F__law_draws cell limits) (fun v => Inb v limits) := by
  unfold F__law_draws
  refine Gv.bnd fun rest _ => Gv.bnd fun state _ => Gv.bnd fun free _ => Gv.bind (Gv.forS (P := fun i s => Inb s.1 (limits.take i)) ?_ fun i x s hx p => ?_) fun s p => .ok ?_
  · rw [List.take_zero]
    trivial
  · have hb0 := hl x (List.mem_of_getElem? hx)
    have hb : 0 < x ∧ x < 2 ^ 128 := ⟨hb0.1, by omega⟩
    have hlen := p.len
    have hi := get_len hx
    rw [List.length_take] at hlen
    have nx : ∀ y : Int, 0 ≤ y → y < x → Inb (s.1 ++ [y]) (limits.take (i + 1)) := fun y h0 h1 => by
      rw [take_succ_get hx]
      exact p.snoc h0 h1
    unfold F__law_draws_b1
    refine Gv.ite (fun _ => Gv.ite (fun _ => Gv.grd hb.1 (Gv.grd (by omega) (Gv.bnd fun y hy => Gv.grd ⟨hb.1, hb.2⟩ (Gv.bnd fun _ _ => .ok ?_)))) fun _ => Gv.bnd fun _ _ => Gv.bnd fun _ _ => Gv.grd hb.1 (Gv.grd (by omega) (Gv.bnd fun y hy => .ok ?_))) fun _ => Gv.bnd fun _ _ => Gv.bnd fun _ _ => Gv.grd hb.1 (Gv.grd (by omega) (Gv.bnd fun y hy => .ok ?_))
    · subst hy
      exact nx _ (Int.emod_nonneg _ (by omega)) (Int.emod_lt_of_pos _ hb.1)
    · subst hy
      exact nx _ (Int.emod_nonneg _ (by omega)) (Int.emod_lt_of_pos _ hb.1)
    · subst hy
      exact nx _ (Int.emod_nonneg _ (by omega)) (Int.emod_lt_of_pos _ hb.1)
  · rw [List.take_length] at p
    exact p
theorem ixg {xs : List Int} {k : Int} {n : Nat} (e : xs.length = n) (h : -(n : Int) ≤ k ∧ k < n) : -(xs.length : Int) ≤ k ∧ k < xs.length := by
  rw [e]
  exact h
theorem itD_lit {xs : List Int} {a k : Int} (n : Nat) (e : k = (n : Int)) (h : xs[n]? = some a) : itD xs k = a := by
  subst e
  have hl := get_len h
  unfold itD atI ixN
  rw [if_pos (by omega), if_pos (by omega)]
  show (xs[n]?).getD default = a
  rw [h]
  rfl
namespace Pb
theorem len_rep1 {α : Type} (a : α) (k : Int) : (repL [a] k).length = k.toNat := by
  unfold repL
  simp
theorem mem_rep1 {α : Type} {a x : α} {k : Int} (h : x ∈ repL [a] k) : x = a := by
  unfold repL at h
  simp at h
  exact h.2
theorem itD_nat {α : Type} [Inhabited α] {e : List α} {k : Nat} {x : α} (h : e[k]? = some x) : itD e (k : Int) = x := by
  unfold itD atI ixN
  have hk := (List.getElem?_eq_some_iff.mp h).1
  rw [if_pos (by omega), if_pos (by omega)]
  simp [h]
theorem itD_mem {α : Type} [Inhabited α] {e : List α} {k : Int} (h : -(e.length : Int) ≤ k ∧ k < e.length) : itD e k ∈ e := by
  obtain ⟨j, hj, hl⟩ := ixN_some h
  unfold itD atI
  rw [hj]
  show (e[j]?).getD default ∈ e
  rw [List.getElem?_eq_getElem hl]
  exact List.getElem_mem hl
def num (xs : List Int) : Int := xs.foldl (fun a x => a * 256 + x) 0
theorem num_snoc (xs : List Int) (x : Int) : num (xs ++ [x]) = num xs * 256 + x := by
  unfold num
  rw [List.foldl_append] <;> rfl
theorem snocInd {α : Type} {motive : List α → Prop} (nil : motive []) (snoc : ∀ xs x, motive xs → motive (xs ++ [x])) (xs : List α) : motive xs := by
  have : ∀ l : List α, motive l.reverse := by
    intro l
    induction l with
    | nil => exact nil
    | cons x r ih =>
      rw [List.reverse_cons]
      exact snoc _ _ ih
  have h := this xs.reverse
  rwa [List.reverse_reverse] at h
theorem last_in {xs : List Int} (h : xs ≠ []) : -(xs.length : Int) ≤ -1 ∧ -1 < (xs.length : Int) := by
  have := List.length_pos_iff.mpr h
  omega
theorem itD_last {xs : List Int} (h : xs ≠ []) : itD xs (-1) = xs.getLast h := by
  unfold itD atI ixN
  have := List.length_pos_iff.mpr h
  rw [if_neg (by omega), if_pos (by omega)]
  have e : (-1 + (xs.length : Int)).toNat = xs.length - 1 := by omega
  show (xs[(-1 + (xs.length : Int)).toNat]?).getD default = _
  rw [e, ← List.getLast?_eq_getElem?, List.getLast?_eq_some_getLast h] <;> rfl
theorem itD_end {e : List Int} {a : Int} : itD (e ++ [a]) (-1) = a := by
  rw [itD_last (by simp), List.getLast_append] <;> simp
def digs (n : Int) (k : Nat) : List Int := (List.range k).map fun j => n / 2 ^ (8 * (k - 1 - j)) % 256
theorem digs_snoc (n x : Int) (k : Nat) (hx : 0 ≤ x ∧ x ≤ 255) : digs (n * 256 + x) (k + 1) = digs n k ++ [x] := by
  unfold digs
  rw [List.range_succ, List.map_append]
  congr 1
  · apply List.map_congr_left
    intro j hj
    have hj := List.mem_range.mp hj
    show (n * 256 + x) / 2 ^ (8 * (k + 1 - 1 - j)) % 256 = n / 2 ^ (8 * (k - 1 - j)) % 256
    rw [show 8 * (k + 1 - 1 - j) = 8 + 8 * (k - 1 - j) from by omega, Int.pow_add, ← Int.ediv_ediv_of_nonneg (by decide)]
    rw [show (n * 256 + x) / 2 ^ 8 = n from by omega]
  · show [(n * 256 + x) / 2 ^ (8 * (k + 1 - 1 - k)) % 256] = [x]
    rw [show 8 * (k + 1 - 1 - k) = 0 from by omega]
    congr 1
    simp
    omega
theorem digs_num : ∀ {xs : List Int}, (∀ x ∈ xs, 0 ≤ x ∧ x ≤ 255) → digs (num xs) xs.length = xs := by
  intro xs
  refine snocInd (motive := fun xs => (∀ x ∈ xs, 0 ≤ x ∧ x ≤ 255) → digs (num xs) xs.length = xs) (fun _ => rfl) (fun ys y ih h => ?_) xs
  rw [num_snoc, List.length_append]
  show digs _ (ys.length + 1) = _
  rw [digs_snoc _ _ _ (h y (by simp)), ih fun x hx => h x (by simp [hx])]
theorem mem_cutL {α : Type} {xs : List α} {lo hi : Option Int} {x : α} (h : x ∈ cutL xs lo hi) : x ∈ xs := by
  unfold cutL at h
  exact List.mem_of_mem_drop (List.mem_of_mem_take h)
abbrev BwS := St_BitWriter
abbrev BrS := St_BitReader
structure BwG (w : BwS) : Prop where
  bits : 0 ≤ w.bits ∧ w.bits ≤ 7
  rest : 0 ≤ w.rest ∧ w.rest < 2 ^ w.bits.toNat
structure BrG (s : BrS) : Prop where
  oct : ∀ x ∈ s.octs, 0 ≤ x ∧ x ≤ 255
  place : 0 ≤ s.place
  stop : s.stop ≤ 8 * (s.octs.length : Int)
def bwAdd (w : BwS) (v c : Int) : BwS :=
  ⟨w.full ++ digs ((w.rest * 2 ^ c.toNat + v) / 2 ^ ((w.bits + c) % 8).toNat) ((w.bits + c) / 8).toNat, (w.rest * 2 ^ c.toNat + v) % 2 ^ ((w.bits + c) % 8).toNat, (w.bits + c) % 8⟩
def bwUe (w : BwS) (v : Int) : BwS := bwAdd w (v + 1) (2 * ((PySem.Builtin.Int.intBits (v + 1) : Nat) : Int) - 1)
def seCode (v : Int) : Int := if 0 < v then 2 * v - 1 else -2 * v
def seBack (c : Int) : Int := if (PySem.Builtin.bitAnd c 1 != 0) = true then (c + 1) / 2 else -(c / 2)
theorem pow7 {b : Int} (h : 0 ≤ b ∧ b ≤ 7) : (2 : Int) ^ b.toNat ≤ 128 := by
  have : b.toNat ≤ 7 := by omega
  have h2 := Nat.pow_le_pow_right (n := 2) (by decide) this
  exact_mod_cast h2
theorem small_rest {w : BwS} (h : BwG w) : 0 ≤ w.rest ∧ w.rest < 128 := by
  have a := pow7 h.bits
  have b := h.rest
  omega
theorem pow_pos2 (n : Nat) : (0 : Int) < 2 ^ n := by
  have : (0 : Nat) < 2 ^ n := Nat.pow_pos (by decide)
  exact_mod_cast this
theorem or_lowN {v o : Int} {n : Nat} (h : 0 ≤ v) (h0 : 0 ≤ o) (h1 : o < 2 ^ n) : PySem.Builtin.bitOr (v * 2 ^ n) o = v * 2 ^ n + o := by
  obtain ⟨a, rfl⟩ := Int.eq_ofNat_of_zero_le h
  obtain ⟨b, rfl⟩ := Int.eq_ofNat_of_zero_le h0
  have hb : b < 2 ^ n := by exact_mod_cast h1
  have z : (a * 2 ^ n) &&& b = 0 := by
    apply Nat.eq_of_testBit_eq
    intro i
    rw [Nat.testBit_and, Nat.zero_testBit, Nat.testBit_mul_two_pow]
    by_cases hi : n ≤ i
    · have e : b.testBit i = false := Nat.testBit_lt_two_pow (Nat.lt_of_lt_of_le hb (Nat.pow_le_pow_right (by decide) hi))
      rw [e, Bool.and_false]
    · simp [hi]
  have c1 : ((a : Int) * 2 ^ n) = ((a * 2 ^ n : Nat) : Int) := by
    push_cast
    rfl
  rw [c1, PyProof.Rows.bitOr_and, PyProof.Rows.bitAnd_pp (by omega) (by omega)]
  rw [show (((a * 2 ^ n : Nat) : Int)).toNat = a * 2 ^ n from rfl, show ((b : Int)).toNat = b from rfl, z]
  exact Int.sub_zero _
structure AddR (T L : Int) (full0 full : List Int) (rest left : Int) : Prop where
  nn : 0 ≤ left
  ex : ∃ j : Nat, left + 8 * (j : Int) = L ∧ full = full0 ++ digs (T / 2 ^ left.toNat) j
  rest : rest = T % 2 ^ left.toNat
theorem mask_pow (x : Int) (n : Nat) : PySem.Builtin.bitAnd x (1 * 2 ^ n - 1) = x % 2 ^ n := by
  rw [Int.one_mul]
  exact PySem.W.kbt_mask x n
theorem mod_div (T : Int) {p : Int} (hp : 0 < p) : T % (p * 2 ^ 8) / p = T / p % 256 := by
  have h1 := Int.emod_def T (p * 2 ^ 8)
  rw [h1, show p * 2 ^ 8 * (T / (p * 2 ^ 8)) = p * (256 * (T / (p * 2 ^ 8))) from by rw [Int.mul_assoc]; rfl]
  rw [Int.sub_mul_ediv_left _ _ (by omega), Int.emod_def, ← Int.ediv_ediv_of_nonneg (Int.le_of_lt hp)]
  rfl
theorem mod_mod_mul (T p q : Int) : T % (p * q) % p = T % p := Int.emod_emod_of_dvd T (Int.dvd_mul_right p q)
theorem digs_len (n : Int) (k : Nat) : (digs n k).length = k := by
  unfold digs
  rw [List.length_map, List.length_range]
theorem AddR.len {T L : Int} {full0 full : List Int} {rest left : Int} (h : AddR T L full0 full rest left) : 8 * (full.length : Int) ≤ 8 * (full0.length : Int) + L := by
  obtain ⟨j, e1, e2⟩ := h.ex
  have := h.nn
  rw [e2, List.length_append, digs_len]
  omega
theorem AddR.le {T L : Int} {full0 full : List Int} {rest left : Int} (h : AddR T L full0 full rest left) : left ≤ L := by
  obtain ⟨j, e1, e2⟩ := h.ex
  omega
theorem total_in {w : BwS} {v c : Int} (h : BwG w) (hc : 0 ≤ c) (hv : 0 ≤ v ∧ v < 2 ^ c.toNat) : 0 ≤ w.rest * 2 ^ c.toNat + v ∧ w.rest * 2 ^ c.toNat + v < 2 ^ (w.bits + c).toNat := by
  have hb := h.bits
  have hr := h.rest
  have p := pow_pos2 c.toNat
  have a : 0 ≤ w.rest * 2 ^ c.toNat := Int.mul_nonneg hr.1 (Int.le_of_lt p)
  have b : (w.rest + 1) * 2 ^ c.toNat ≤ 2 ^ w.bits.toNat * 2 ^ c.toNat := Int.mul_le_mul_of_nonneg_right (by omega) (Int.le_of_lt p)
  rw [← Int.pow_add, show w.bits.toNat + c.toNat = (w.bits + c).toNat from by omega, Int.add_mul, Int.one_mul] at b
  exact ⟨by omega, by omega⟩
theorem add_start {w : BwS} {v c : Int} (h : BwG w) (hc : 0 ≤ c) (hv : 0 ≤ v ∧ v < 2 ^ c.toNat) : AddR (w.rest * 2 ^ c.toNat + v) (w.bits + c) w.full w.full (PySem.Builtin.bitOr (w.rest * 2 ^ c.toNat) v) (w.bits + c) := by
  have t := total_in h hc hv
  have hb := h.bits
  refine ⟨by omega, ⟨0, by omega, by rw [show digs _ 0 = [] from rfl, List.append_nil]⟩, ?_⟩
  rw [or_lowN h.rest.1 hv.1 hv.2, Int.emod_eq_of_lt t.1 t.2]
theorem add_turn {T L : Int} {full0 full : List Int} {rest left : Int} (h : AddR T L full0 full rest left) (h8 : 8 ≤ left) :
    AddR T L full0 (full ++ [rest / 2 ^ (left - 8).toNat]) (PySem.Builtin.bitAnd rest (1 * 2 ^ (left - 8).toNat - 1)) (left - 8) := by
  obtain ⟨j, e1, e2⟩ := h.ex
  have e3 := h.rest
  obtain ⟨k, hk⟩ := Int.eq_ofNat_of_zero_le (show 0 ≤ left - 8 by omega)
  have hl : left.toNat = k + 8 := by omega
  have hk2 : (left - 8).toNat = k := by omega
  rw [hl] at e2 e3
  rw [hk2]
  have hp := pow_pos2 k
  have hd : rest / 2 ^ k = T / 2 ^ k % 256 := by
    rw [e3, Int.pow_add]
    exact mod_div T hp
  have hm : rest % 2 ^ k = T % 2 ^ k := by
    rw [e3, Int.pow_add]
    exact mod_mod_mul _ _ _
  refine ⟨by omega, ⟨j + 1, by omega, ?_⟩, ?_⟩
  · rw [hk2, e2, hd, List.append_assoc]
    congr 1
    have hq : T / 2 ^ k = T / 2 ^ (k + 8) * 256 + T / 2 ^ k % 256 := by
      rw [Int.pow_add, ← Int.ediv_ediv_of_nonneg (Int.le_of_lt hp)]
      show _ = T / 2 ^ k / 256 * 256 + _
      omega
    rw [hq, digs_snoc _ _ _ (by omega)]
    congr 1
    congr 1
    omega
  · rw [mask_pow, hm, hk2]
theorem add_end {w : BwS} {v c : Int} {full : List Int} {rest left : Int} (h : AddR (w.rest * 2 ^ c.toNat + v) (w.bits + c) w.full full rest left) (h8 : left < 8) : (⟨full, rest, left⟩ : BwS) = bwAdd w v c := by
  obtain ⟨j, e1, e2⟩ := h.ex
  have e3 := h.rest
  have hl := h.nn
  have a : (w.bits + c) % 8 = left := by omega
  have b : ((w.bits + c) / 8).toNat = j := by omega
  unfold bwAdd
  rw [a, b, e2, e3]
theorem ib_spec {n : Int} (h : 0 < n) : ∃ k : Nat, PySem.Builtin.Int.intBits n = k + 1 ∧ (2 : Int) ^ k ≤ n ∧ n < 2 ^ (k + 1) := by
  obtain ⟨m, rfl⟩ := Int.eq_ofNat_of_zero_le (Int.le_of_lt h)
  have hm : m ≠ 0 := by omega
  refine ⟨m.log2, ?_, ?_, ?_⟩
  · unfold PySem.Builtin.Int.intBits
    rw [if_neg (by simp; omega)]
    rfl
  · exact_mod_cast Nat.log2_self_le hm
  · exact_mod_cast Nat.lt_log2_self
theorem pow_lt_of {k n : Nat} (h : (2 : Int) ^ k < 2 ^ n) : k < n := by
  have h2 : 2 ^ k < 2 ^ n := by exact_mod_cast h
  exact (Nat.pow_lt_pow_iff_right (by decide)).mp h2
theorem pow_mono {k n : Nat} (h : k ≤ n) : (2 : Int) ^ k ≤ 2 ^ n := by
  have := Nat.pow_le_pow_right (n := 2) (by decide) h
  exact_mod_cast this
theorem ue_in {v : Int} (h0 : 0 ≤ v) (h1 : v ≤ 4294967296) : (0 ≤ 2 * ((PySem.Builtin.Int.intBits (v + 1) : Nat) : Int) - 1 ∧ 2 * ((PySem.Builtin.Int.intBits (v + 1) : Nat) : Int) - 1 ≤ 130) ∧
    (0 ≤ v + 1 ∧ v + 1 < 2 ^ (2 * ((PySem.Builtin.Int.intBits (v + 1) : Nat) : Int) - 1).toNat) := by
  obtain ⟨k, e, lo, hi⟩ := ib_spec (n := v + 1) (by omega)
  have hk : k < 33 := pow_lt_of (Int.lt_of_le_of_lt lo (by show v + 1 < 8589934592; omega))
  rw [e]
  refine ⟨by omega, by omega, ?_⟩
  exact Int.lt_of_lt_of_le hi (pow_mono (by omega))
def lastBit (o : Int) : Int :=
  if o % 2 = 1 then 1 else if o % 4 = 2 then 2 else if o % 8 = 4 then 3 else if o % 16 = 8 then 4 else if o % 32 = 16 then 5 else if o % 64 = 32 then 6 else if o % 128 = 64 then 7 else 8
theorem eight {b : Int} (h1 : 1 ≤ b) (h8 : b ≤ 8) : b = 1 ∨ b = 2 ∨ b = 3 ∨ b = 4 ∨ b = 5 ∨ b = 6 ∨ b = 7 ∨ b = 8 := by omega
theorem bit_mod (x : Int) : PySem.Builtin.bitAnd x 1 = x % 2 := PySem.W.kbt_mask x 1
theorem lb_turn {o b : Int} (h : 0 < o ∧ o ≤ 255) (h1 : 1 ≤ b) (h8 : b ≤ 8) (hz : o % 2 ^ (b - 1).toNat = 0) (hc : PySem.Builtin.bitAnd (o / 2 ^ (b - 1).toNat) 1 = 0) : 1 ≤ b + 1 ∧ b + 1 ≤ 8 ∧ o % 2 ^ (b + 1 - 1).toNat = 0 := by
  rw [bit_mod] at hc
  rcases eight h1 h8 with rfl | rfl | rfl | rfl | rfl | rfl | rfl | rfl <;> simp at hz hc ⊢ <;> omega
theorem lb_end {o b : Int} (h : 0 < o ∧ o ≤ 255) (h1 : 1 ≤ b) (h8 : b ≤ 8) (hz : o % 2 ^ (b - 1).toNat = 0) (hc : ¬ PySem.Builtin.bitAnd (o / 2 ^ (b - 1).toNat) 1 = 0) : lastBit o = b := by
  rw [bit_mod] at hc
  unfold lastBit
  rcases eight h1 h8 with rfl | rfl | rfl | rfl | rfl | rfl | rfl | rfl <;> simp at hz hc <;> (repeat' split) <;> omega
theorem last_oct {xs : List Int} (h : xs ≠ []) (hz : ¬ itD xs (-1) = 0) (ho : ∀ x ∈ xs, 0 ≤ x ∧ x ≤ 255) : 0 < itD xs (-1) ∧ itD xs (-1) ≤ 255 := by
  have := ho _ (itD_mem (last_in h))
  omega
def brInit (o : List Int) : BrS := ⟨o, 0, 8 * (o.length : Int) - lastBit (itD o (-1))⟩
def brMove (s : BrS) (c : Int) : BrS := ⟨s.octs, s.place + c, s.stop⟩
def lookB (o : List Int) (p c : Int) : Int := num o / 2 ^ (8 * (o.length : Int) - p - c).toNat % 2 ^ c.toNat
def sliceB (o : List Int) (p c : Int) : List Int := cutL o (some (p / 8)) (some ((p + c + 7) / 8))
structure Zeros (s : BrS) (z : Nat) : Prop where
  most : (z : Int) ≤ 32
  fit : s.place + (z : Int) + 1 ≤ s.stop
  zero : ∀ k : Nat, k < z → lookB s.octs (s.place + (k : Int)) 1 = 0
  one : lookB s.octs (s.place + (z : Int)) 1 = 1
theorem zeros_ne {s : BrS} {z : Nat} {q : Int} (h : Zeros s z) (h0 : 0 ≤ q) (h1 : q ≤ (z : Int)) (hc : lookB s.octs (s.place + q) 1 = 0) : q < (z : Int) := by
  rcases (by omega : q < (z : Int) ∨ q = (z : Int)) with a | a
  · exact a
  · rw [a, h.one] at hc
    exact absurd hc (by decide)
theorem zeros_eq {s : BrS} {z : Nat} {q : Int} (h : Zeros s z) (h0 : 0 ≤ q) (h1 : q ≤ (z : Int)) (hc : ¬ lookB s.octs (s.place + q) 1 = 0) : q = (z : Int) := by
  obtain ⟨k, rfl⟩ := Int.eq_ofNat_of_zero_le h0
  rcases (by omega : k < z ∨ (k : Int) = (z : Int)) with a | a
  · exact absurd (h.zero k a) hc
  · exact a
theorem and7 (x : Int) : PySem.Builtin.bitAnd x 7 = x % 8 := PySem.W.kbt_mask x 3
theorem and7_nn (x : Int) : 0 ≤ PySem.Builtin.bitAnd x 7 := by
  rw [and7]
  omega
theorem num_app (xs ys : List Int) : num (xs ++ ys) = num xs * 256 ^ ys.length + num ys := by
  refine snocInd (motive := fun ys => num (xs ++ ys) = num xs * 256 ^ ys.length + num ys) ?_ (fun zs z ih => ?_) ys
  · rw [List.append_nil]
    show num xs = num xs * 1 + 0
    omega
  · rw [← List.append_assoc, num_snoc, num_snoc, ih, List.length_append]
    show _ = num xs * 256 ^ (zs.length + 1) + _
    rw [Int.pow_succ, ← Int.mul_assoc]
    omega
theorem pow256 (n : Nat) : (256 : Int) ^ n = 2 ^ (8 * n) := by
  rw [Int.pow_mul]
  rfl
theorem num_lt {xs : List Int} (h : ∀ x ∈ xs, 0 ≤ x ∧ x ≤ 255) : 0 ≤ num xs ∧ num xs < 256 ^ xs.length := by
  refine snocInd (motive := fun xs => (∀ x ∈ xs, 0 ≤ x ∧ x ≤ 255) → 0 ≤ num xs ∧ num xs < 256 ^ xs.length) (fun _ => ⟨by decide, by decide⟩) (fun ys y ih h => ?_) xs h
  have i := ih fun x hx => h x (by simp [hx])
  have hy := h y (by simp)
  rw [num_snoc, List.length_append]
  show _ ∧ _ < (256 : Int) ^ (ys.length + 1)
  rw [Int.pow_succ]
  omega
theorem slice_mem {o : List Int} {p c : Int} {x : Int} (h : x ∈ sliceB o p c) : x ∈ o := by
  unfold sliceB at h
  exact mem_cutL h
theorem slice_oct {o : List Int} {p c : Int} {i : Nat} {x : Int} (h : ∀ x ∈ o, 0 ≤ x ∧ x ≤ 255) (hi : (sliceB o p c)[i]? = some x) : 0 ≤ x ∧ x ≤ 255 := h x (slice_mem (List.mem_of_getElem? hi))
theorem num_take {xs : List Int} {i : Nat} {x : Int} (hi : xs[i]? = some x) : num (xs.take i) * 256 + x = num (xs.take (i + 1)) := by
  rw [take_succ_get hi, num_snoc]
theorem slice_split {o : List Int} {p c : Int} (hp : 0 ≤ p) (hc : 0 ≤ c) (h : p + c ≤ 8 * (o.length : Int)) :
    ∃ A C : List Int, o = A ++ sliceB o p c ++ C ∧ (A.length : Int) = p / 8 ∧ (C.length : Int) = o.length - (p + c + 7) / 8 ∧ ((sliceB o p c).length : Int) = (p + c + 7) / 8 - p / 8 := by
  obtain ⟨a, ha⟩ := Int.eq_ofNat_of_zero_le (show 0 ≤ p / 8 by omega)
  obtain ⟨b, hb⟩ := Int.eq_ofNat_of_zero_le (show 0 ≤ (p + c + 7) / 8 by omega)
  have hab : a ≤ b := by omega
  have hbl : b ≤ o.length := by omega
  unfold sliceB cutL
  rw [ha, hb, HT.sIx_nat, HT.sIx_nat, Nat.min_eq_left hbl, Nat.min_eq_left (by omega)]
  refine ⟨o.take a, o.drop b, ?_, ?_, ?_, ?_⟩
  · have e : List.drop b o = List.drop (b - a) (List.drop a o) := by
      rw [List.drop_drop]
      congr 1
      omega
    rw [e, List.append_assoc, List.take_append_drop, List.take_append_drop]
  · rw [List.length_take]
    omega
  · rw [List.length_drop]
    omega
  · rw [List.length_take, List.length_drop]
    omega
theorem slice_small {s : BrS} {p c : Int} (h : BrG s) (hp : 0 ≤ p) (hc : 0 ≤ c ∧ c ≤ 65) (hs : p + c ≤ s.stop) (i : Nat) : 0 ≤ num ((sliceB s.octs p c).take i) ∧ num ((sliceB s.octs p c).take i) < 2 ^ 4096 := by
  have hst := h.stop
  obtain ⟨A, C, e, hA, hC, hS⟩ := slice_split (o := s.octs) hp hc.1 (by omega)
  have hl : ((sliceB s.octs p c).take i).length ≤ 500 := by
    rw [List.length_take]
    omega
  have n := num_lt (xs := (sliceB s.octs p c).take i) fun x hx => h.oct x (slice_mem (List.mem_of_mem_take hx))
  refine ⟨n.1, Int.lt_of_lt_of_le n.2 ?_⟩
  rw [pow256]
  exact pow_mono (by omega)
theorem look_eq {s : BrS} {p c : Int} (h : BrG s) (hp : 0 ≤ p) (hc : 0 ≤ c ∧ c ≤ 65) (hs : p + c ≤ s.stop) :
    lookB s.octs p c = PySem.Builtin.bitAnd (num (sliceB s.octs p c) / 2 ^ (PySem.Builtin.bitAnd (-(p + c)) 7).toNat) (1 * 2 ^ c.toNat - 1) := by
  obtain ⟨cn, rfl⟩ := Int.eq_ofNat_of_zero_le hc.1
  have hst := h.stop
  obtain ⟨A, C, e, hA, hC, hS⟩ := slice_split (o := s.octs) hp hc.1 (by omega)
  have hCo : ∀ x ∈ C, 0 ≤ x ∧ x ≤ 255 := fun x hx => h.oct x (by rw [e]; exact List.mem_append_right _ hx)
  have nC := num_lt hCo
  rw [mask_pow, and7]
  unfold lookB
  obtain ⟨pad, hpad⟩ := Int.eq_ofNat_of_zero_le (show 0 ≤ -(p + (cn : Int)) % 8 by omega)
  have hlen : (8 * (s.octs.length : Int) - p - (cn : Int)).toNat = 8 * C.length + pad := by omega
  rw [hlen, hpad]
  have e1 : num s.octs / 2 ^ (8 * C.length + pad) = num (A ++ sliceB s.octs p (cn : Int)) / 2 ^ pad := by
    have e2 : num s.octs = num (A ++ sliceB s.octs p (cn : Int)) * 256 ^ C.length + num C := by
      rw [← num_app, ← e]
    rw [Int.pow_add, ← Int.ediv_ediv_of_nonneg (Int.le_of_lt (pow_pos2 _)), e2, pow256]
    rw [pow256] at nC
    congr 1
    rw [Int.add_comm, Int.add_mul_ediv_right _ _ (by have := pow_pos2 (8 * C.length); omega), Int.ediv_eq_zero_of_lt nC.1 nC.2]
    omega
  rw [e1, num_app, pow256]
  obtain ⟨d, hd⟩ : ∃ d : Nat, 8 * (sliceB s.octs p (cn : Int)).length = d + cn + pad := ⟨8 * (sliceB s.octs p (cn : Int)).length - cn - pad, by omega⟩
  rw [hd, Int.pow_add, Int.pow_add, ← Int.mul_assoc, ← Int.mul_assoc, Int.add_comm, Int.add_mul_ediv_right _ _ (by have := pow_pos2 pad; omega)]
  exact Int.add_mul_emod_self_right _ _ _

def nb (bs : List Int) : Int := bs.foldl (fun a x => a * 2 + x) 0
theorem nb_snoc (xs : List Int) (x : Int) : nb (xs ++ [x]) = nb xs * 2 + x := by
  unfold nb
  rw [List.foldl_append] <;> rfl
theorem nb_app (xs ys : List Int) : nb (xs ++ ys) = nb xs * 2 ^ ys.length + nb ys := by
  refine snocInd (motive := fun ys => nb (xs ++ ys) = nb xs * 2 ^ ys.length + nb ys) ?_ (fun zs z ih => ?_) ys
  · rw [List.append_nil]
    show nb xs = nb xs * 1 + 0
    omega
  · rw [← List.append_assoc, nb_snoc, nb_snoc, ih, List.length_append]
    show _ = nb xs * 2 ^ (zs.length + 1) + _
    rw [Int.pow_succ, ← Int.mul_assoc]
    omega
def B01 (bs : List Int) : Prop := ∀ b ∈ bs, 0 ≤ b ∧ b ≤ 1
theorem nb_lt {bs : List Int} (h : B01 bs) : 0 ≤ nb bs ∧ nb bs < 2 ^ bs.length := by
  refine snocInd (motive := fun bs => B01 bs → 0 ≤ nb bs ∧ nb bs < 2 ^ bs.length) (fun _ => ⟨by decide, by decide⟩) (fun ys y ih h => ?_) bs h
  have i := ih fun x hx => h x (by simp [hx])
  have hy := h y (by simp)
  rw [nb_snoc, List.length_append]
  show _ ∧ _ < (2 : Int) ^ (ys.length + 1)
  rw [Int.pow_succ]
  omega
theorem b01_app {xs ys : List Int} (h : B01 xs) (g : B01 ys) : B01 (xs ++ ys) := fun b hb => by
  rcases List.mem_append.mp hb with z | z
  · exact h b z
  · exact g b z
def bitsL (v c : Int) : List Int := (List.range c.toNat).map fun (j : Nat) => PySem.Builtin.bitAnd (v / 2 ^ Int.toNat (c - 1 - (0 + (j : Int)))) 1
theorem bitsL_len (v c : Int) : (bitsL v c).length = c.toNat := by
  unfold bitsL
  rw [List.length_map, List.length_range]
theorem bitsL_01 (v c : Int) : B01 (bitsL v c) := by
  intro b hb
  unfold bitsL at hb
  obtain ⟨j, _, e⟩ := List.mem_map.mp hb
  rw [← e]
  show 0 ≤ PySem.Builtin.bitAnd _ 1 ∧ PySem.Builtin.bitAnd _ 1 ≤ 1
  rw [bit_mod]
  omega
theorem bitsL_succ (v : Int) (n : Nat) : bitsL v ((n + 1 : Nat) : Int) = bitsL (v / 2) (n : Int) ++ [v % 2] := by
  unfold bitsL
  rw [show (((n + 1 : Nat) : Int)).toNat = n + 1 from rfl, show ((n : Int)).toNat = n from rfl, List.range_succ, List.map_append]
  congr 1
  · apply List.map_congr_left
    intro j hj
    have hj := List.mem_range.mp hj
    rw [bit_mod, bit_mod, show Int.toNat (((n + 1 : Nat) : Int) - 1 - (0 + (j : Int))) = 1 + Int.toNat ((n : Int) - 1 - (0 + (j : Int))) from by omega, Int.pow_add, ← Int.ediv_ediv_of_nonneg (by decide)]
    rfl
  · show [PySem.Builtin.bitAnd (v / 2 ^ Int.toNat (((n + 1 : Nat) : Int) - 1 - (0 + (n : Int)))) 1] = [v % 2]
    rw [bit_mod, show Int.toNat (((n + 1 : Nat) : Int) - 1 - (0 + (n : Int))) = 0 from by omega]
    show [v / 1 % 2] = _
    rw [Int.ediv_one]
theorem nb_bitsL : ∀ (n : Nat) {v : Int}, 0 ≤ v ∧ v < 2 ^ n → nb (bitsL v (n : Int)) = v
  | 0, v, h => by
    have : v = 0 := by
      have := h.2
      rw [Int.pow_zero] at this
      omega
    rw [this]
    rfl
  | n + 1, v, h => by
    rw [bitsL_succ, nb_snoc, nb_bitsL n (v := v / 2) (by have := h.2; rw [Int.pow_succ] at this; omega)]
    omega
def ueL (v : Int) : List Int := repL [0] (((PySem.Builtin.Int.intBits (v + 1) : Nat) : Int) - 1) ++ bitsL (v + 1) ((PySem.Builtin.Int.intBits (v + 1) : Nat) : Int)
def padL (bs : List Int) : List Int := (bs ++ [1]) ++ repL [0] ((8 - ((bs ++ [1]).length : Int) % 8) % 8)
def packL (bs : List Int) : List Int := (List.range (((padL bs).length : Int) / 8).toNat).map fun (i : Nat) => List.sum ((List.range 8).map fun (j : Nat) => itD (padL bs) (8 * (0 + (i : Int)) + (0 + (j : Int))) * 2 ^ Int.toNat (7 - (0 + (j : Int))))
theorem rep_zeros (k : Int) : repL [(0 : Int)] k = List.replicate k.toNat 0 := by
  unfold repL
  induction k.toNat with
  | zero => rfl
  | succ n ih =>
    rw [List.replicate_succ, List.flatten_cons, ih]
    rfl
theorem nb_zeros : ∀ n : Nat, nb (List.replicate n 0) = 0
  | 0 => rfl
  | n + 1 => nb_zeros n
theorem zeros_01 (n : Nat) : B01 (List.replicate n 0) := fun b hb => by
  rw [List.eq_of_mem_replicate hb]
  decide
theorem padL_len (bs : List Int) : ∃ m : Nat, ((padL bs).length : Int) = 8 * (m : Int) ∧ (m : Int) = bs.length / 8 + 1 := by
  refine ⟨bs.length / 8 + 1, ?_, by omega⟩
  unfold padL
  rw [List.length_append, len_rep1, List.length_append]
  simp only [List.length_cons, List.length_nil]
  omega
theorem padL_mem {bs : List Int} (h : B01 bs) : B01 (padL bs) := by
  unfold padL
  refine b01_app (b01_app h (fun b hb => ?_)) ?_
  · rw [List.mem_singleton.mp hb]
    decide
  · rw [rep_zeros]
    exact zeros_01 _
theorem ue_form {v : Int} (h : 0 ≤ v) : ∃ k : Nat, PySem.Builtin.Int.intBits (v + 1) = k + 1 ∧ (2 : Int) ^ k ≤ v + 1 ∧ v + 1 < 2 ^ (k + 1) ∧ ueL v = List.replicate k 0 ++ bitsL (v + 1) ((k + 1 : Nat) : Int) ∧ (ueL v).length = 2 * k + 1 ∧ nb (ueL v) = v + 1 ∧ B01 (ueL v) := by
  obtain ⟨k, e, lo, hi⟩ := ib_spec (n := v + 1) (by omega)
  have e2 : ueL v = List.replicate k 0 ++ bitsL (v + 1) ((k + 1 : Nat) : Int) := by
    unfold ueL
    rw [e, rep_zeros, show (((k + 1 : Nat) : Int) - 1).toNat = k from by omega]
  refine ⟨k, e, lo, hi, e2, ?_, ?_, ?_⟩
  · rw [e2, List.length_append, List.length_replicate, bitsL_len]
    omega
  · rw [e2, nb_app, nb_zeros, Int.zero_mul, Int.zero_add]
    exact nb_bitsL (k + 1) ⟨by omega, hi⟩
  · rw [e2]
    exact b01_app (zeros_01 _) (bitsL_01 _ _)
structure WR (w : BwS) (bs : List Int) : Prop where
  g : BwG w
  oct : ∀ x ∈ w.full, 0 ≤ x ∧ x ≤ 255
  b : B01 bs
  len : (bs.length : Int) = 8 * (w.full.length : Int) + w.bits
  val : nb bs = num w.full * 2 ^ w.bits.toNat + w.rest
theorem num_digs : ∀ (k : Nat) {M : Int}, 0 ≤ M ∧ M < 256 ^ k → num (digs M k) = M
  | 0, M, h => by
    have : M = 0 := by
      have := h.2
      rw [Int.pow_zero] at this
      omega
    rw [this]
    rfl
  | k + 1, M, h => by
    have e : M = M / 256 * 256 + M % 256 := by omega
    have h2 := h.2
    rw [Int.pow_succ] at h2
    have d := digs_snoc (M / 256) (M % 256) k (by omega)
    rw [← e] at d
    rw [d, num_snoc, num_digs k (M := M / 256) (by omega)]
    omega
theorem digs_oct {M : Int} {k : Nat} : ∀ x ∈ digs M k, 0 ≤ x ∧ x ≤ 255 := by
  intro x hx
  unfold digs at hx
  obtain ⟨j, _, e⟩ := List.mem_map.mp hx
  rw [← e]
  show 0 ≤ _ % 256 ∧ _ % 256 ≤ 255
  omega
theorem wr_add {w : BwS} {bs X : List Int} {v c : Int} (h : WR w bs) (hc : 0 ≤ c) (hx : B01 X) (hl : (X.length : Int) = c) (hv : nb X = v) : WR (bwAdd w v c) (bs ++ X) := by
  have hv2 := nb_lt hx
  have hcn : c.toNat = X.length := by omega
  rw [hv, ← hcn] at hv2
  have t := total_in h.g hc hv2
  have hb := h.g.bits
  have hval := h.val
  obtain ⟨r, hr⟩ := Int.eq_ofNat_of_zero_le (show 0 ≤ (w.bits + c) % 8 by omega)
  obtain ⟨k, hk⟩ := Int.eq_ofNat_of_zero_le (show 0 ≤ (w.bits + c) / 8 by omega)
  have hsum : (w.bits + c).toNat = 8 * k + r := by omega
  have hr2 : ((w.bits + c) % 8).toNat = r := by omega
  have hk2 : ((w.bits + c) / 8).toNat = k := by omega
  have pr := pow_pos2 r
  rw [hsum, Int.pow_add, ← pow256] at t
  have hM : 0 ≤ (w.rest * 2 ^ c.toNat + v) / 2 ^ r ∧ (w.rest * 2 ^ c.toNat + v) / 2 ^ r < 256 ^ k :=
    ⟨Int.ediv_nonneg t.1 (Int.le_of_lt pr), Int.ediv_lt_of_lt_mul pr t.2⟩
  unfold bwAdd
  rw [hr2, hk2]
  refine ⟨⟨by show 0 ≤ (w.bits + c) % 8 ∧ (w.bits + c) % 8 ≤ 7; omega, ?_⟩, ?_, b01_app h.b hx, ?_, ?_⟩
  · show 0 ≤ (w.rest * 2 ^ c.toNat + v) % 2 ^ r ∧ (w.rest * 2 ^ c.toNat + v) % 2 ^ r < 2 ^ ((w.bits + c) % 8).toNat
    rw [hr2]
    exact ⟨Int.emod_nonneg _ (by omega), Int.emod_lt_of_pos _ pr⟩
  · intro x hx
    rcases List.mem_append.mp hx with z | z
    · exact h.oct x z
    · exact digs_oct x z
  · have hlen := h.len
    show ((bs ++ X).length : Int) = 8 * ((w.full ++ digs _ k).length : Int) + (w.bits + c) % 8
    rw [List.length_append, List.length_append, digs_len]
    omega
  · show nb (bs ++ X) = num (w.full ++ digs _ k) * 2 ^ ((w.bits + c) % 8).toNat + (w.rest * 2 ^ c.toNat + v) % 2 ^ r
    rw [hr2, nb_app, num_app, digs_len, num_digs k hM, hv, hval, ← hcn]
    have q := Int.mul_ediv_add_emod (w.rest * 2 ^ c.toNat + v) (2 ^ r)
    rw [Int.add_mul, Int.add_mul, Int.mul_assoc, Int.mul_assoc, ← Int.pow_add, show w.bits.toNat + c.toNat = 8 * k + r from by omega, Int.pow_add, ← pow256]
    rw [Int.mul_comm (2 ^ r)] at q
    omega
theorem wr_nil : WR ⟨[], 0, 0⟩ [] := ⟨⟨by decide, by decide⟩, fun x h => (List.not_mem_nil h).elim, fun x h => (List.not_mem_nil h).elim, rfl, rfl⟩
def ItOk (it : Int × Int × Int) : Prop := (it.1 = 0 ∧ (0 ≤ it.2.2 ∧ it.2.2 ≤ 64) ∧ 0 ≤ it.2.1 ∧ it.2.1 < 2 ^ it.2.2.toNat) ∨ (it.1 = 1 ∧ 0 ≤ it.2.1 ∧ it.2.1 ≤ 4294967296) ∨ (it.1 = 2 ∧ -2147483648 ≤ it.2.1 ∧ it.2.1 ≤ 2147483648)
def itBits (it : Int × Int × Int) : List Int := if it.1 = 0 then bitsL it.2.1 it.2.2 else if it.1 = 1 then ueL it.2.1 else ueL (seCode it.2.1)
def itAdd (w : BwS) (it : Int × Int × Int) : BwS := if it.1 = 0 then bwAdd w it.2.1 it.2.2 else if it.1 = 1 then bwUe w it.2.1 else bwUe w (seCode it.2.1)
theorem se_in {v : Int} (h : -2147483648 ≤ v ∧ v ≤ 2147483648) : 0 ≤ seCode v ∧ seCode v ≤ 4294967296 := by
  unfold seCode
  split <;> omega
theorem wr_ue {w : BwS} {bs : List Int} {v : Int} (h : WR w bs) (hv : 0 ≤ v) : WR (bwUe w v) (bs ++ ueL v) := by
  obtain ⟨k, e, lo, hi, e2, hl, hn, hb⟩ := ue_form hv
  unfold bwUe
  rw [e]
  exact wr_add h (by omega) hb (by rw [hl]; omega) hn
theorem wr_put {w : BwS} {bs : List Int} {it : Int × Int × Int} (h : WR w bs) (hi : ItOk it) : WR (itAdd w it) (bs ++ itBits it) := by
  unfold itAdd itBits
  rcases hi with ⟨a, b, c⟩ | ⟨a, b⟩ | ⟨a, b⟩
  · rw [if_pos a, if_pos a]
    obtain ⟨n, hn⟩ := Int.eq_ofNat_of_zero_le b.1
    rw [hn] at c ⊢
    exact wr_add h (by omega) (bitsL_01 _ _) (by rw [bitsL_len]; omega) (nb_bitsL n c)
  · rw [if_neg (by omega), if_pos a, if_neg (by omega), if_pos a]
    exact wr_ue h b.1
  · rw [if_neg (by omega), if_neg (by omega), if_neg (by omega), if_neg (by omega)]
    exact wr_ue h (se_in b).1
theorem it_01 {it : Int × Int × Int} (hi : ItOk it) : B01 (itBits it) := by
  unfold itBits
  rcases hi with ⟨a, b, c⟩ | ⟨a, b⟩ | ⟨a, b⟩
  · rw [if_pos a]
    exact bitsL_01 _ _
  · rw [if_neg (by omega), if_pos a]
    obtain ⟨k, e, lo, hi, e2, hl, hn, hb⟩ := ue_form b.1
    exact hb
  · rw [if_neg (by omega), if_neg (by omega)]
    obtain ⟨k, e, lo, hi, e2, hl, hn, hb⟩ := ue_form (se_in b).1
    exact hb
theorem ue_len {v : Int} (h : 0 ≤ v) (h1 : v ≤ 4294967296) : (ueL v).length ≤ 130 := by
  obtain ⟨k, e, lo, hi, e2, hl, hn, hb⟩ := ue_form h
  have u := (ue_in h h1).1
  rw [e] at u
  omega
theorem it_len {it : Int × Int × Int} (hi : ItOk it) : (itBits it).length ≤ 130 := by
  unfold itBits
  rcases hi with ⟨a, b, c⟩ | ⟨a, b⟩ | ⟨a, b⟩
  · rw [if_pos a, bitsL_len]
    omega
  · rw [if_neg (by omega), if_pos a]
    exact ue_len b.1 b.2
  · rw [if_neg (by omega), if_neg (by omega)]
    exact ue_len (se_in b).1 (se_in b).2
theorem eight0 {b : Int} (h : 0 ≤ b ∧ b ≤ 7) : b = 0 ∨ b = 1 ∨ b = 2 ∨ b = 3 ∨ b = 4 ∨ b = 5 ∨ b = 6 ∨ b = 7 := by omega
theorem wr_mem {w : BwS} {bs : List Int} (h : WR w bs) : ∀ x ∈ w.full ++ [(2 * w.rest + 1) * 2 ^ (7 - w.bits).toNat], 0 ≤ x ∧ x ≤ 255 := by
  intro x hx
  rcases List.mem_append.mp hx with z | z
  · exact h.oct x z
  · rw [List.mem_singleton.mp z]
    have hb := h.g.bits
    have hr := h.g.rest
    rcases eight0 hb with e | e | e | e | e | e | e | e <;>
      (rw [e] at hr ⊢; simp at hr ⊢; omega)
theorem wr_last {w : BwS} {bs : List Int} (h : WR w bs) : 0 < (2 * w.rest + 1) * 2 ^ (7 - w.bits).toNat ∧ lastBit ((2 * w.rest + 1) * 2 ^ (7 - w.bits).toNat) = 8 - w.bits := by
  have hb := h.g.bits
  have hr := h.g.rest
  refine ⟨?_, ?_⟩
  · rcases eight0 hb with e | e | e | e | e | e | e | e <;> (rw [e] at hr ⊢; simp at hr ⊢; try omega)
  · unfold lastBit
    rcases eight0 hb with e | e | e | e | e | e | e | e <;> (rw [e] at hr ⊢; simp at hr ⊢ <;> (repeat' split) <;> omega)
theorem wr_num {w : BwS} {bs : List Int} (h : WR w bs) : num (w.full ++ [(2 * w.rest + 1) * 2 ^ (7 - w.bits).toNat]) = (nb bs * 2 + 1) * 2 ^ (7 - w.bits).toNat := by
  have hb := h.g.bits
  rw [num_snoc, h.val]
  rcases eight0 hb with e | e | e | e | e | e | e | e <;>
    (rw [e]; simp; omega)
theorem pad_nb {w : BwS} {bs : List Int} (h : WR w bs) : nb (padL bs) = (nb bs * 2 + 1) * 2 ^ (7 - w.bits).toNat := by
  have hb := h.g.bits
  have hl := h.len
  unfold padL
  rw [nb_app, rep_zeros, nb_zeros, nb_snoc, List.length_replicate, List.length_append]
  simp only [List.length_cons, List.length_nil]
  rw [show ((8 - ((bs.length + (0 + 1) : Nat) : Int) % 8) % 8).toNat = (7 - w.bits).toNat from by omega]
  omega
theorem take8 {B : List Int} {m : Nat} (h : 8 * (m + 1) ≤ B.length) : ∃ a b c d e f g i : Int, B.take (8 * (m + 1)) = B.take (8 * m) ++ [a] ++ [b] ++ [c] ++ [d] ++ [e] ++ [f] ++ [g] ++ [i] ∧
    itD B (8 * (0 + (m : Int)) + 0) = a ∧ itD B (8 * (0 + (m : Int)) + 1) = b ∧ itD B (8 * (0 + (m : Int)) + 2) = c ∧ itD B (8 * (0 + (m : Int)) + 3) = d ∧
    itD B (8 * (0 + (m : Int)) + 4) = e ∧ itD B (8 * (0 + (m : Int)) + 5) = f ∧ itD B (8 * (0 + (m : Int)) + 6) = g ∧ itD B (8 * (0 + (m : Int)) + 7) = i := by
  have ix : ∀ k : Nat, (hk : 8 * m + k < B.length) → B[8 * m + k]? = some (B[8 * m + k]'hk) := fun k hk => List.getElem?_eq_getElem hk
  have it : ∀ k : Nat, (hk : 8 * m + k < B.length) → itD B (8 * (0 + (m : Int)) + (k : Int)) = B[8 * m + k]'hk := fun k hk => by
    rw [show 8 * (0 + (m : Int)) + (k : Int) = ((8 * m + k : Nat) : Int) from by omega]
    exact itD_nat (ix k hk)
  refine ⟨_, _, _, _, _, _, _, _, ?_, it 0 (by omega), it 1 (by omega), it 2 (by omega), it 3 (by omega), it 4 (by omega), it 5 (by omega), it 6 (by omega), it 7 (by omega)⟩
  rw [show 8 * (m + 1) = 8 * m + 7 + 1 from by omega, take_succ_get (ix 7 (by omega)), take_succ_get (ix 6 (by omega)), take_succ_get (ix 5 (by omega)), take_succ_get (ix 4 (by omega)), take_succ_get (ix 3 (by omega)), take_succ_get (ix 2 (by omega)), take_succ_get (ix 1 (by omega)), take_succ_get (ix 0 (by omega))]
  rfl
def octB (B : List Int) (m : Nat) : Int := List.sum ((List.range 8).map fun (j : Nat) => itD B (8 * (0 + (m : Int)) + (0 + (j : Int))) * 2 ^ Int.toNat (7 - (0 + (j : Int))))
theorem octB_eq (B : List Int) (m : Nat) : octB B m = itD B (8 * (0 + (m : Int)) + 0) * 128 + itD B (8 * (0 + (m : Int)) + 1) * 64 + itD B (8 * (0 + (m : Int)) + 2) * 32 + itD B (8 * (0 + (m : Int)) + 3) * 16 +
    itD B (8 * (0 + (m : Int)) + 4) * 8 + itD B (8 * (0 + (m : Int)) + 5) * 4 + itD B (8 * (0 + (m : Int)) + 6) * 2 + itD B (8 * (0 + (m : Int)) + 7) := by
  unfold octB
  rw [show List.range 8 = [0, 1, 2, 3, 4, 5, 6, 7] from rfl]
  simp only [List.map_cons, List.map_nil, List.sum_cons, List.sum_nil]
  show itD B (8 * (0 + (m : Int)) + 0) * 128 + (itD B (8 * (0 + (m : Int)) + 1) * 64 + (itD B (8 * (0 + (m : Int)) + 2) * 32 + (itD B (8 * (0 + (m : Int)) + 3) * 16 + (itD B (8 * (0 + (m : Int)) + 4) * 8 + (itD B (8 * (0 + (m : Int)) + 5) * 4 + (itD B (8 * (0 + (m : Int)) + 6) * 2 + (itD B (8 * (0 + (m : Int)) + 7) * 1 + 0))))))) = _
  omega
theorem oct_turn8 {B : List Int} (hB : B01 B) {m : Nat} (h : 8 * (m + 1) ≤ B.length) : nb (B.take (8 * (m + 1))) = nb (B.take (8 * m)) * 256 + octB B m ∧ 0 ≤ octB B m ∧ octB B m ≤ 255 := by
  obtain ⟨a, b, c, d, e, f, g, i, ht, ea, eb, ec, ed, ee, ef, eg, ei⟩ := take8 h
  have hb : ∀ x ∈ [a, b, c, d, e, f, g, i], 0 ≤ x ∧ x ≤ 1 := fun x hx => by
    apply hB x
    apply List.mem_of_mem_take (i := 8 * (m + 1))
    rw [ht]
    simp only [List.mem_cons, List.not_mem_nil, or_false] at hx
    simp only [List.mem_append, List.mem_singleton]
    rcases hx with z | z | z | z | z | z | z | z <;> simp [z]
  simp only [List.mem_cons, List.not_mem_nil, or_false, forall_eq_or_imp, forall_eq] at hb
  rw [octB_eq, ea, eb, ec, ed, ee, ef, eg, ei, ht]
  simp only [nb_snoc]
  omega
theorem num_pack {B : List Int} (hB : B01 B) : ∀ m : Nat, 8 * m ≤ B.length → num ((List.range m).map (octB B)) = nb (B.take (8 * m)) ∧ ∀ x ∈ (List.range m).map (octB B), 0 ≤ x ∧ x ≤ 255
  | 0, _ => ⟨rfl, fun x hx => (List.not_mem_nil hx).elim⟩
  | m + 1, h => by
    have ih := num_pack hB m (by omega)
    have t := oct_turn8 hB h
    rw [List.range_succ, List.map_append]
    refine ⟨?_, fun x hx => ?_⟩
    · show num (_ ++ [octB B m]) = _
      rw [num_snoc, ih.1, t.1]
    · rcases List.mem_append.mp hx with z | z
      · exact ih.2 x z
      · rw [show x = octB B m from by simpa using z]
        exact t.2
theorem wr_octets {w : BwS} {bs : List Int} (h : WR w bs) : w.full ++ [(2 * w.rest + 1) * 2 ^ (7 - w.bits).toNat] = packL bs := by
  obtain ⟨m, h1, h2⟩ := padL_len bs
  have hm : (((padL bs).length : Int) / 8).toNat = m := by omega
  have hB := padL_mem h.b
  have p := num_pack hB m (by omega)
  have hpk : packL bs = (List.range m).map (octB (padL bs)) := by
    unfold packL
    rw [hm]
    rfl
  have hl : (packL bs).length = m := by rw [hpk, List.length_map, List.length_range]
  have hl2 : (w.full ++ [(2 * w.rest + 1) * 2 ^ (7 - w.bits).toNat]).length = m := by
    have := h.len
    have := h.g.bits
    rw [List.length_append]
    simp only [List.length_cons, List.length_nil]
    omega
  have a := digs_num (wr_mem h)
  have b := digs_num p.2
  rw [← hpk] at b
  rw [hl] at b
  rw [hl2] at a
  rw [← a, ← b, hpk, p.1, List.take_of_length_le (by omega), pad_nb h, wr_num h]
structure RR (s : BrS) (bs : List Int) : Prop where
  g : BrG s
  b : B01 bs
  len : s.place + (bs.length : Int) = s.stop
  val : num s.octs / 2 ^ (8 * (s.octs.length : Int) - s.stop).toNat % 2 ^ bs.length = nb bs
theorem rr_look {s : BrS} {Z X Y : List Int} (h : RR s (Z ++ X ++ Y)) : lookB s.octs (s.place + (Z.length : Int)) (X.length : Int) = nb X := by
  have hl := h.len
  have hs := h.g.stop
  have hv := h.val
  have hX := nb_lt (bs := X) fun b hb => h.b b (by simp [hb])
  have hY := nb_lt (bs := Y) fun b hb => h.b b (by simp [hb])
  rw [List.length_append, List.length_append] at hl hv
  unfold lookB
  rw [show (8 * (s.octs.length : Int) - (s.place + (Z.length : Int)) - (X.length : Int)).toNat = (8 * (s.octs.length : Int) - s.stop).toNat + Y.length from by omega, Int.pow_add, ← Int.ediv_ediv_of_nonneg (Int.le_of_lt (pow_pos2 _))]
  generalize num s.octs / 2 ^ (8 * (s.octs.length : Int) - s.stop).toNat = q at *
  show q / 2 ^ Y.length % 2 ^ X.length = nb X
  have pY := pow_pos2 Y.length
  have pX := pow_pos2 X.length
  have e : q = 2 ^ (Z.length + X.length + Y.length) * (q / 2 ^ (Z.length + X.length + Y.length)) + nb (Z ++ X ++ Y) := by
    rw [← hv]
    exact (Int.mul_ediv_add_emod _ _).symm
  generalize q / 2 ^ (Z.length + X.length + Y.length) = t at e
  rw [e, nb_app, nb_app, Int.pow_add, Int.pow_add]
  rw [show 2 ^ Z.length * 2 ^ X.length * 2 ^ Y.length * t + ((nb Z * 2 ^ X.length + nb X) * 2 ^ Y.length + nb Y) = nb Y + (nb X + (2 ^ Z.length * t + nb Z) * 2 ^ X.length) * 2 ^ Y.length from by
    simp only [Int.add_mul]
    rw [show 2 ^ Z.length * 2 ^ X.length * 2 ^ Y.length * t = 2 ^ Z.length * t * 2 ^ X.length * 2 ^ Y.length from by ac_rfl]
    omega]
  rw [Int.add_mul_ediv_right _ _ (by omega), Int.ediv_eq_zero_of_lt hY.1 hY.2, Int.zero_add, Int.add_mul_emod_self_right, Int.emod_eq_of_lt hX.1 hX.2]
theorem rr_move {s : BrS} {X Y : List Int} (h : RR s (X ++ Y)) : RR (brMove s (X.length : Int)) Y := by
  have hl := h.len
  have hv := h.val
  rw [List.length_append] at hl hv
  have hY := nb_lt (bs := Y) fun b hb => h.b b (by simp [hb])
  have g := h.g
  refine ⟨⟨g.oct, by show 0 ≤ s.place + (X.length : Int); have := g.place; omega, g.stop⟩, fun b hb => h.b b (by simp [hb]), by show s.place + (X.length : Int) + (Y.length : Int) = s.stop; omega, ?_⟩
  show num s.octs / 2 ^ (8 * (s.octs.length : Int) - s.stop).toNat % 2 ^ Y.length = nb Y
  generalize num s.octs / 2 ^ (8 * (s.octs.length : Int) - s.stop).toNat = q at *
  have hq := mod_mod_mul q (2 ^ Y.length) (2 ^ X.length)
  rw [Int.mul_comm, ← Int.pow_add, hv, nb_app, Int.add_comm, Int.add_mul_emod_self_right, Int.emod_eq_of_lt hY.1 hY.2] at hq
  exact hq.symm
theorem rr_init {w : BwS} {bs : List Int} (h : WR w bs) : RR (brInit (w.full ++ [(2 * w.rest + 1) * 2 ^ (7 - w.bits).toNat])) bs := by
  have hb := h.g.bits
  have hl := h.len
  have lb := wr_last h
  have hn := nb_lt h.b
  have hlen : ((w.full ++ [(2 * w.rest + 1) * 2 ^ (7 - w.bits).toNat]).length : Int) = w.full.length + 1 := by
    rw [List.length_append]
    rfl
  have hst : (brInit (w.full ++ [(2 * w.rest + 1) * 2 ^ (7 - w.bits).toNat])).stop = bs.length := by
    show 8 * ((w.full ++ [(2 * w.rest + 1) * 2 ^ (7 - w.bits).toNat]).length : Int) - lastBit (itD (w.full ++ [(2 * w.rest + 1) * 2 ^ (7 - w.bits).toNat]) (-1)) = _
    rw [itD_end, lb.2, hlen]
    omega
  refine ⟨⟨wr_mem h, Int.le_refl 0, by rw [hst]; show _ ≤ 8 * ((w.full ++ [(2 * w.rest + 1) * 2 ^ (7 - w.bits).toNat]).length : Int); omega⟩, h.b, by rw [hst]; show (0 : Int) + _ = _; omega, ?_⟩
  rw [hst]
  show num (w.full ++ [(2 * w.rest + 1) * 2 ^ (7 - w.bits).toNat]) / 2 ^ (8 * ((w.full ++ [(2 * w.rest + 1) * 2 ^ (7 - w.bits).toNat]).length : Int) - (bs.length : Int)).toNat % 2 ^ bs.length = nb bs
  rw [wr_num h, hlen, show (8 * ((w.full.length : Int) + 1) - (bs.length : Int)).toNat = (7 - w.bits).toNat + 1 from by omega, Int.pow_add, ← Int.ediv_ediv_of_nonneg (Int.le_of_lt (pow_pos2 _)), Int.mul_ediv_cancel _ (by have := pow_pos2 (7 - w.bits).toNat; omega)]
  rw [show (nb bs * 2 + 1) / 2 ^ 1 = nb bs from by omega, Int.emod_eq_of_lt hn.1 hn.2]
theorem rr_zeros {s : BrS} {v : Int} {Y : List Int} (hv : 0 ≤ v) (hv1 : v ≤ 4294967296) (h : RR s (ueL v ++ Y)) :
    ∃ z : Nat, Zeros s z ∧ s.place + (2 * (z : Int) + 1) ≤ s.stop ∧ lookB s.octs s.place (2 * (z : Int) + 1) - 1 = v ∧ 2 * (z : Int) + 1 = ((ueL v).length : Int) := by
  obtain ⟨k, e, lo, hi, e2, hl, hn, hb⟩ := ue_form hv
  have hk : k < 33 := pow_lt_of (Int.lt_of_le_of_lt lo (by show v + 1 < 8589934592; omega))
  have hlen := h.len
  rw [List.length_append, hl] at hlen
  refine ⟨k, ⟨by omega, by omega, fun j hj => ?_, ?_⟩, by omega, ?_, by omega⟩
  · have h2 : RR s (List.replicate j 0 ++ [0] ++ (List.replicate (k - j - 1) 0 ++ bitsL (v + 1) ((k + 1 : Nat) : Int) ++ Y)) := by
      have e3 : List.replicate k (0 : Int) = List.replicate j 0 ++ ([0] ++ List.replicate (k - j - 1) 0) := by
        rw [show [(0 : Int)] = List.replicate 1 0 from rfl, List.replicate_append_replicate, List.replicate_append_replicate]
        congr 1
        omega
      rw [e2, e3] at h
      simpa using h
    have r := rr_look h2
    rw [List.length_replicate] at r
    exact r
  · have e4 : ∃ T : List Int, bitsL (v + 1) ((k + 1 : Nat) : Int) = [1] ++ T := by
      refine ⟨(bitsL (v + 1) ((k + 1 : Nat) : Int)).drop 1, ?_⟩
      unfold bitsL
      rw [show (((k + 1 : Nat) : Int)).toNat = k + 1 from rfl, List.range_succ_eq_map, List.map_cons, List.drop_one, List.tail_cons, List.singleton_append]
      congr 1
      rw [bit_mod, show Int.toNat (((k + 1 : Nat) : Int) - 1 - (0 + ((0 : Nat) : Int))) = k from by omega]
      have p := pow_pos2 k
      rw [Int.pow_succ] at hi
      have q1 : (v + 1) / 2 ^ k = 1 := by
        apply Int.le_antisymm
        · have : (v + 1) / 2 ^ k < 2 := Int.ediv_lt_of_lt_mul p (by omega)
          omega
        · exact Int.le_ediv_of_mul_le p (by omega)
      rw [q1]
      rfl
    obtain ⟨T, e5⟩ := e4
    have h2 : RR s (List.replicate k 0 ++ [1] ++ (T ++ Y)) := by
      rw [e2, e5] at h
      simpa using h
    have r := rr_look h2
    rw [List.length_replicate] at r
    exact r
  · have h2 : RR s ([] ++ ueL v ++ Y) := by
      rw [List.nil_append]
      exact h
    have r := rr_look h2
    rw [hl, hn] at r
    rw [show s.place + (([] : List Int).length : Int) = s.place from Int.add_zero _] at r
    rw [show (2 * (k : Int) + 1) = ((2 * k + 1 : Nat) : Int) from by omega, r]
    omega
theorem se_back (v : Int) : seBack (seCode v) = v := by
  unfold seBack seCode
  rw [bit_mod]
  by_cases h : 0 < v
  · rw [if_pos h, if_pos (by rw [show (2 * v - 1) % 2 = 1 from by omega]; rfl)]
    omega
  · rw [if_neg h, if_neg (by rw [show -2 * v % 2 = 0 from by omega]; decide)]
    omega
structure GetOk (s : BrS) (it : Int × Int × Int) : Prop where
  g : BrG s
  get0 : it.1 = 0 → (0 ≤ it.2.2 ∧ it.2.2 ≤ 64) ∧ s.place + it.2.2 ≤ s.stop ∧ lookB s.octs s.place it.2.2 = it.2.1 ∧ it.2.2 = ((itBits it).length : Int)
  get1 : it.1 = 1 → ∃ z : Nat, Zeros s z ∧ s.place + (2 * (z : Int) + 1) ≤ s.stop ∧ lookB s.octs s.place (2 * (z : Int) + 1) - 1 = it.2.1 ∧ 2 * (z : Int) + 1 = ((itBits it).length : Int)
  get2 : ¬ it.1 = 0 → ¬ it.1 = 1 → ∃ z : Nat, Zeros s z ∧ s.place + (2 * (z : Int) + 1) ≤ s.stop ∧ seBack (lookB s.octs s.place (2 * (z : Int) + 1) - 1) = it.2.1 ∧ 2 * (z : Int) + 1 = ((itBits it).length : Int)
theorem rr_get {s : BrS} {it : Int × Int × Int} {Y : List Int} (hi : ItOk it) (h : RR s (itBits it ++ Y)) : GetOk s it := by
  refine ⟨h.g, fun a => ?_, fun a => ?_, fun a b => ?_⟩
  · have e : itBits it = bitsL it.2.1 it.2.2 := if_pos a
    rw [e] at h ⊢
    rcases hi with ⟨_, b, c⟩ | ⟨z, _⟩ | ⟨z, _⟩
    · obtain ⟨n, hn⟩ := Int.eq_ofNat_of_zero_le b.1
      have hl := h.len
      rw [List.length_append, bitsL_len] at hl
      rw [bitsL_len]
      refine ⟨b, by omega, ?_, by omega⟩
      have h2 : RR s ([] ++ bitsL it.2.1 it.2.2 ++ Y) := by
        rw [List.nil_append]
        exact h
      have r := rr_look h2
      rw [bitsL_len, show ((it.2.2.toNat : Nat) : Int) = it.2.2 from by omega, show s.place + (([] : List Int).length : Int) = s.place from Int.add_zero _] at r
      rw [r]
      rw [hn] at c ⊢
      exact nb_bitsL n c
    · omega
    · omega
  · have e : itBits it = ueL it.2.1 := by
      unfold itBits
      rw [if_neg (by omega), if_pos a]
    rw [e] at h ⊢
    rcases hi with ⟨z, _⟩ | ⟨_, b⟩ | ⟨z, _⟩
    · omega
    · exact rr_zeros b.1 b.2 h
    · omega
  · have e : itBits it = ueL (seCode it.2.1) := by
      unfold itBits
      rw [if_neg a, if_neg b]
    rw [e] at h ⊢
    rcases hi with ⟨z, _⟩ | ⟨z, _⟩ | ⟨_, c⟩
    · omega
    · omega
    · obtain ⟨z, z1, z2, z3, z4⟩ := rr_zeros (se_in c).1 (se_in c).2 h
      exact ⟨z, z1, z2, by rw [z3]; exact se_back _, z4⟩
end Pb
namespace Pb
theorem big_in {x : Int} (h0 : -1000000 ≤ x) (h1 : x ≤ 1000000) : -(2 ^ 4096) < x ∧ x < 2 ^ 4096 := by
  have k : (2 : Int) ^ 20 ≤ 2 ^ 4096 := pow_mono (by omega)
  have k2 : (2 : Int) ^ 20 = 1048576 := rfl
  generalize (2 : Int) ^ 4096 = b at *
  omega
theorem add_eq {w : BwS} {v c : Int} (h : BwG w) (hc : 0 ≤ c ∧ c ≤ 130) (hv : 0 ≤ v ∧ v < 2 ^ c.toNat) (hf : w.full.length ≤ 900000) : F_BitWriter__add w v c = .ok (bwAdd w v c) := by
  have hb := h.bits
  have hr := small_rest h
  unfold F_BitWriter__add
  have hi := big_in (x := w.rest) (by omega) (by omega)
  refine Gv.get (Gv.grd ⟨hc.1, by omega, hi.1, hi.2⟩ (Gv.bnd fun rest e1 => Gv.bnd fun left e2 => Gv.bind (Gv.whileR (P := fun s : St_BitWriter × Int × Int => s.1.rest = w.rest ∧ s.1.bits = w.bits ∧ AddR (w.rest * 2 ^ c.toNat + v) (w.bits + c) w.full s.1.full s.2.1 s.2.2) (R := fun s => (⟨s.1.full, s.2.1, s.2.2⟩ : BwS) = bwAdd w v c) (fun s => s.2.2.toNat) (fun s p => ?_) ?_ ?_) fun l hl => ?_))
  · obtain ⟨p1, p2, p⟩ := p
    have hl := p.len
    have hle := p.le
    have hi1 := big_in (x := 1) (by omega) (by omega)
    unfold F_BitWriter__add_b1
    refine Gv.ite (fun h8 => ?_) (fun h8 => .ok (Or.inr ⟨(s.1, s.2.1, s.2.2), rfl, add_end p (Int.not_le.mp h8)⟩))
    refine Gv.bnd fun l hl2 => ?_
    subst hl2
    refine Gv.grd (by omega) (Gv.grd (by omega) (Gv.bnd fun y hy => Gv.grd ⟨by omega, by omega, hi1.1, hi1.2⟩ (Gv.bnd fun r hr => .ok (Or.inl ⟨_, rfl, ⟨p1, p2, ?_⟩, ?_⟩))))
    · subst hy hr
      exact add_turn p h8
    · show (s.2.2 - 8).toNat < s.2.2.toNat
      omega
  · subst e1 e2
    exact ⟨rfl, rfl, add_start h hc.1 hv⟩
  · show left.toNat < 1000000
    subst e2
    omega
  · obtain ⟨s, rfl, hs⟩ := hl
    rw [aft_go]
    exact .ok hs
theorem put_ue_eq {w : BwS} {v : Int} (h : BwG w) (hv : 0 ≤ v ∧ v ≤ 4294967296) (hf : w.full.length ≤ 900000) : F_BitWriter_put_ue w v = .ok (bwUe w v) := by
  have u := ue_in hv.1 hv.2
  unfold F_BitWriter_put_ue
  rw [if_pos hv.1, if_pos hv.2, bnd_eq, add_eq h u.1 u.2 hf]
  rfl
theorem octets_eq {w : BwS} (h : BwG w) (hf : w.full.length ≤ 900000) : F_BitWriter_octets w = .ok (w.full ++ [(2 * w.rest + 1) * 2 ^ (7 - w.bits).toNat]) := by
  have hb := h.bits
  have hr := small_rest h
  have hi := big_in (x := 2 * w.rest + 1) (by omega) (by omega)
  unfold F_BitWriter_octets
  rw [bnd_eq, grd_pos ⟨by omega, by omega, hi.1, hi.2⟩, grd_pos (by simp; omega)]
theorem wr_ue_gv {w : BwS} {bs : List Int} {v : Int} (h : WR w bs) (hv : 0 ≤ v ∧ v ≤ 4294967296) (hl : bs.length ≤ 900000) : Gv (F_BitWriter_put_ue w v) (fun w' => WR w' (bs ++ ueL v)) := by
  have hlen := h.len
  have hb := h.g.bits
  exact .of_eq (put_ue_eq h.g hv (by omega)) (wr_ue h hv.1)
theorem wr_octets_eq {w : BwS} {bs : List Int} (h : WR w bs) (hl : bs.length ≤ 900000) : F_BitWriter_octets w = .ok (packL bs) := by
  have hlen := h.len
  have hb := h.g.bits
  rw [octets_eq h.g (by omega), wr_octets h]
theorem last_eq {o : Int} (h : 0 < o ∧ o ≤ 255) : F__last_bit o = .ok (lastBit o) := by
  unfold F__last_bit
  refine Gv.get (Gv.bind (Gv.whileR (P := fun b : Int => (1 ≤ b ∧ b ≤ 8) ∧ o % 2 ^ (b - 1).toNat = 0) (R := fun b => lastBit o = b) (fun b => (9 - b).toNat) (fun b p => ?_) ⟨by decide, by show o % 1 = 0; omega⟩ (by decide)) fun l hl => ?_)
  · unfold F__last_bit_b1
    refine Gv.grd (by omega) (Gv.ite (fun hc => Gv.bnd fun b2 hb2 => .ok (Or.inl ⟨_, rfl, ?_, ?_⟩)) fun hc => .ok (Or.inr ⟨_, rfl, lb_end h p.1.1 p.1.2 p.2 hc⟩))
    · subst hb2
      have t := lb_turn h p.1.1 p.1.2 p.2 hc
      exact ⟨⟨t.1, t.2.1⟩, t.2.2⟩
    · omega
  · obtain ⟨s, rfl, hs⟩ := hl
    exact .ok hs.symm
theorem init_eq {o : List Int} (h : o ≠ []) (hz : ¬ itD o (-1) = 0) (ho : ∀ x ∈ o, 0 ≤ x ∧ x ≤ 255) : F_BitReader___init__ o = .ok (brInit o) := by
  have hin := last_in h
  unfold F_BitReader___init__
  rw [if_neg h, grd_pos hin, if_neg hz, grd_pos hin, last_eq (last_oct h hz ho)]
  rfl
theorem look_ok {s : BrS} {p c : Int} (h : BrG s) (hp : 0 ≤ p) (hc : 0 ≤ c ∧ c ≤ 65) (hs : p + c ≤ s.stop) : F_BitReader__look s p c = .ok (lookB s.octs p c) := by
  unfold F_BitReader__look
  have hi1 := big_in (x := 1) (by omega) (by omega)
  refine Gv.get (Gv.bnd fun e he => ?_)
  subst he
  refine Gv.neg (by omega) (Gv.bind (Gv.forS (P := fun i v => v = num ((sliceB s.octs p c).take i)) rfl fun i x v hx pv => ?_) fun v hv => ?_)
  · have sm := slice_small h hp hc hs i
    have hb : -(2 ^ 4096) < v ∧ v < 2 ^ 4096 := by
      rw [pv]
      refine ⟨?_, sm.2⟩
      have k : (0 : Int) < 2 ^ 4096 := pow_pos2 4096
      have := sm.1
      generalize (2 : Int) ^ 4096 = b at *
      omega
    have ox := slice_oct h.oct hx
    have e : PySem.Builtin.bitOr (v * 2 ^ Int.toNat 8) x = v * 256 + x := or_lowN (n := 8) (by rw [pv]; exact sm.1) ox.1 (by omega)
    unfold F_BitReader__look_b1
    refine Gv.grd ⟨by decide, by decide, hb.1, hb.2⟩ (Gv.bnd fun y hy => .ok ?_)
    rw [hy, e, pv]
    exact num_take (xs := sliceB s.octs p c) hx
  · unfold F_BitReader__look_r1
    refine Gv.grd (and7_nn _) (Gv.grd ⟨hc.1, by omega, hi1.1, hi1.2⟩ (.ok ?_))
    rw [hv, look_eq h hp hc hs]
    unfold sliceB
    rw [List.take_length]
theorem take_ok {s : BrS} {c : Int} (h : BrG s) (hc : 0 ≤ c ∧ c ≤ 65) (hs : s.place + c ≤ s.stop) : F_BitReader__take s c = .ok (lookB s.octs s.place c, brMove s c) := by
  unfold F_BitReader__take
  rw [look_ok h h.place hc hs]
  rfl
theorem rng_map {β : Type} (n : Nat) (g : Int → β) : (rng 0 n).map g = (List.range n).map fun (j : Nat) => g (0 + (j : Int)) := by
  unfold rng
  rw [List.map_map]
  rfl
theorem lbits_eq {v c : Int} (hc : 0 ≤ c ∧ c ≤ 1000) : F__law_bits v c = .ok (bitsL v c) := by
  unfold F__law_bits
  rw [grd_pos ⟨by omega, by omega⟩, mapA_pure0 (g := fun j => PySem.Builtin.bitAnd (v / 2 ^ Int.toNat (c - 1 - j)) 1) (fun j hj => ?_) (by rw [rng_len]; omega), bind_ok]
  · congr 1
    unfold bitsL
    exact rng_map _ _
  · have hj := rng_mem hj
    unfold F__law_bits_c1
    rw [grd_pos (by omega)]
    rfl
theorem lpacked_eq {bs : List Int} (h : B01 bs) (hl : bs.length ≤ 900000) : F__law_packed bs = .ok (packL bs) := by
  obtain ⟨m, h1, h2⟩ := padL_len bs
  have hB := padL_mem h
  have hr : (repL [(0 : Int)] ((8 - ((bs ++ [1]).length : Int) % 8) % 8)).length ≤ 8 := by
    rw [len_rep1]
    omega
  have ha : (bs ++ [(1 : Int)]).length = bs.length + 1 := by simp
  unfold F__law_packed
  rw [grd_pos (by simp; omega), grd_pos ⟨by omega, by omega, by simp; omega⟩, grd_pos (by omega)]
  show grd (-(2 ^ 62) ≤ ((padL bs).length : Int) / 8 ∧ ((padL bs).length : Int) / 8 < 2 ^ 62) ((mapA (rng 0 (Int.toNat (((padL bs).length : Int) / 8))) [] fun x => noEr (F__law_packed_c1 (padL bs) x)).bind fun v => .ok v) = _
  rw [grd_pos ⟨by omega, by omega⟩, mapA_pure0 (g := fun i => List.sum ((List.range 8).map fun (j : Nat) => itD (padL bs) (8 * i + (0 + (j : Int))) * 2 ^ Int.toNat (7 - (0 + (j : Int))))) (fun i hi => ?_) (by rw [rng_len]; omega), bind_ok]
  · congr 1
    unfold packL
    exact rng_map _ _
  · have hi := rng_mem hi
    unfold F__law_packed_c1
    rw [mapA_pure0 (g := fun j => itD (padL bs) (8 * i + j) * 2 ^ Int.toNat (7 - j)) (fun j hj => ?_) (by rw [rng_len]; decide), bind_ok]
    · show Rx.ok (List.sum ((rng 0 8).map _)) = _
      rw [rng_map]
    · have hj := rng_mem hj
      have hj : 0 ≤ j ∧ j < 8 := ⟨hj.1, by have := hj.2; simp at this; omega⟩
      have hin : -((padL bs).length : Int) ≤ 8 * i + j ∧ 8 * i + j < ((padL bs).length : Int) := by omega
      have b := hB _ (itD_mem hin)
      have bi := big_in (x := itD (padL bs) (8 * i + j)) (by omega) (by omega)
      unfold F__law_packed_c2
      rw [grd_pos hin, grd_pos ⟨by omega, by omega, bi.1, bi.2⟩]
      rfl
structure WL (w : BwS) (bs : List Int) (n : Nat) : Prop where
  r : WR w bs
  l : bs.length ≤ n
theorem WL.nil : WL ⟨[], 0, 0⟩ [] 0 := ⟨wr_nil, Nat.le_refl 0⟩
theorem WL.oct {w : BwS} {bs : List Int} {n : Nat} (h : WL w bs n) (hn : n ≤ 900000) : F_BitWriter_octets w = .ok (packL bs) := wr_octets_eq h.r (Nat.le_trans h.l hn)
theorem bits_one {a : Int} (h : 0 ≤ a ∧ a ≤ 1) : bitsL a 1 = [a] := by
  rcases (by omega : a = 0 ∨ a = 1) with rfl | rfl <;> rfl
theorem wr_of {bs : List Int} (h : B01 bs) : ∃ w, WR w bs := by
  have := wr_add (X := bs) (v := nb bs) (c := (bs.length : Int)) wr_nil (by omega) h rfl rfl
  exact ⟨_, this⟩
theorem init_pack {bs : List Int} (h : B01 bs) : ∃ s, F_BitReader___init__ (packL bs) = .ok s ∧ RR s bs := by
  obtain ⟨w, hw⟩ := wr_of h
  have e := wr_octets hw
  have l := wr_last hw
  have m := wr_mem hw
  refine ⟨_, init_eq ?_ ?_ ?_, ?_⟩
  · rw [← e]
    simp
  · rw [← e, itD_end]
    omega
  · rw [← e]
    exact m
  · rw [← e]
    exact rr_init hw
theorem rr_end {s : BrS} (h : RR s []) : s.stop - s.place = 0 := by
  have := h.len
  simp at this
  omega
end Pb
namespace Pb
theorem put_eq {w : BwS} {v c : Int} (h : BwG w) (hc : 0 ≤ c ∧ c ≤ 64) (hv : 0 ≤ v ∧ v < 2 ^ c.toNat) (hf : w.full.length ≤ 900000) : F_BitWriter_put w v c = .ok (bwAdd w v c) := by
  unfold F_BitWriter_put
  have hi1 := big_in (x := 1) (by omega) (by omega)
  rw [if_pos hc.1, if_pos hc.2, if_pos hv.1, grd_pos ⟨hc.1, by omega, hi1.1, hi1.2⟩, if_pos (by rw [Int.one_mul]; exact hv.2), add_eq h ⟨hc.1, by omega⟩ hv hf]
  rfl
theorem wr_put_gv {w : BwS} {bs : List Int} {v c : Int} (h : WR w bs) (hc : 0 ≤ c ∧ c ≤ 64) (hv : 0 ≤ v ∧ v < 2 ^ c.toNat) (hl : bs.length ≤ 900000) : Gv (F_BitWriter_put w v c) (fun w' => WR w' (bs ++ bitsL v c)) := by
  have hlen := h.len
  have hb := h.g.bits
  refine .of_eq (put_eq h.g hc hv (by omega)) ?_
  obtain ⟨n, rfl⟩ := Int.eq_ofNat_of_zero_le hc.1
  exact wr_add h (by omega) (bitsL_01 _ _) (by rw [bitsL_len]; omega) (nb_bitsL n hv)
theorem get_ok {s : BrS} {c : Int} (h : BrG s) (hc : 0 ≤ c ∧ c ≤ 64) (hs : s.place + c ≤ s.stop) : F_BitReader_get s c = .ok (lookB s.octs s.place c, brMove s c) := by
  unfold F_BitReader_get
  rw [if_pos hc.1, if_pos hc.2, take_ok h ⟨hc.1, by omega⟩ hs]
  rfl
theorem rr_get_ok {s : BrS} {v c : Int} {Y : List Int} (hc : 0 ≤ c ∧ c ≤ 64) (hv : 0 ≤ v ∧ v < 2 ^ c.toNat) (h : RR s (bitsL v c ++ Y)) : ∃ s', F_BitReader_get s c = .ok (v, s') ∧ RR s' Y := by
  obtain ⟨n, rfl⟩ := Int.eq_ofNat_of_zero_le hc.1
  have hl := h.len
  have hn : (bitsL v (n : Int)).length = n := bitsL_len _ _
  rw [List.length_append, hn] at hl
  have m := rr_move h
  have r := rr_look (Z := []) (X := bitsL v (n : Int)) (Y := Y) (by rw [List.nil_append]; exact h)
  rw [hn] at m r
  rw [show s.place + (([] : List Int).length : Int) = s.place from Int.add_zero _, nb_bitsL n hv] at r
  refine ⟨_, ?_, m⟩
  rw [get_ok h.g hc (by omega), r]
theorem WL.put {w : BwS} {bs : List Int} {n : Nat} {v c : Int} (h : WL w bs n) (hn : n ≤ 900000) (hc : 0 ≤ c ∧ c ≤ 64) (hv : 0 ≤ v ∧ v < 2 ^ c.toNat) : Gv (F_BitWriter_put w v c) (fun w' => WL w' (bs ++ bitsL v c) (n + 64)) := by
  have hl := h.l
  refine (wr_put_gv h.r hc hv (by omega)).imp fun w' h' => ⟨h', ?_⟩
  rw [List.length_append, bitsL_len]
  omega
end Pb
/-! k06 -/
open Pb
theorem hi1 : -(2 ^ 4096) < (1 : Int) ∧ (1 : Int) < 2 ^ 4096 := Pb.big_in (by decide) (by decide)
theorem gv_go {σ ρ β : Type} {s : σ} {r : ρ → Rx β} {k : σ → Rx β} {Q : β → Prop} (h : Gv (k s) Q) : Gv ((Lp.go s : Lp σ ρ).aft r k) Q := h
/-! ### refused by the writer -/
theorem put_er {w : BwS} {v c : Int} (h : ¬ ((0 ≤ c ∧ c ≤ 64) ∧ 0 ≤ v ∧ v < 1 * 2 ^ Int.toNat c)) : F_BitWriter_put w v c = .er 1 := by
  unfold F_BitWriter_put
  by_cases a : 0 ≤ c
  · rw [if_pos a]
    by_cases b : c ≤ 64
    · rw [if_pos b]
      by_cases d : 0 ≤ v
      · rw [if_pos d, grd_pos ⟨a, by omega, hi1.1, hi1.2⟩, if_neg fun z => h ⟨⟨a, b⟩, d, z⟩]
      · rw [if_neg d]
    · rw [if_neg b]
  · rw [if_neg a]
theorem ue_er {w : BwS} {v : Int} (h : ¬ (0 ≤ v ∧ v ≤ 4294967296)) : F_BitWriter_put_ue w v = .er 1 := by
  unfold F_BitWriter_put_ue
  by_cases a : 0 ≤ v
  · rw [if_pos a, if_neg fun z => h ⟨a, z⟩]
  · rw [if_neg a]
theorem se_er {w : BwS} {v : Int} (h : ¬ (-2147483648 ≤ v ∧ v ≤ 2147483648)) : F_BitWriter_put_se w v = .er 1 := by
  unfold F_BitWriter_put_se
  rw [ue_er (by split <;> omega)]
  rfl
section
variable {w : BwS} {O : List Int}
theorem ref0 (o : F_BitWriter_octets w = .ok O) {v c : Int} (e : F_BitWriter_put w v c = .er 1) : F__law_put_refused w 0 v c = .ok (true, w) := by
  refine Gv.get ?_
  unfold F__law_put_refused
  exact Gv.bind_eq o (Gv.pos rfl (Gv.tryEr e (by decide) (Gv.bind_eq o (.ok (by rw [decide_eq_true (show O = O from rfl)])))))
theorem ref1 (o : F_BitWriter_octets w = .ok O) {v c : Int} (e : F_BitWriter_put_ue w v = .er 1) : F__law_put_refused w 1 v c = .ok (true, w) := by
  refine Gv.get ?_
  unfold F__law_put_refused
  exact Gv.bind_eq o (Gv.neg (by decide) (Gv.pos rfl (Gv.tryEr e (by decide) (Gv.bind_eq o (.ok (by rw [decide_eq_true (show O = O from rfl)]))))))
theorem ref2 (o : F_BitWriter_octets w = .ok O) {v c : Int} (e : F_BitWriter_put_se w v = .er 1) : F__law_put_refused w 2 v c = .ok (true, w) := by
  refine Gv.get ?_
  unfold F__law_put_refused
  exact Gv.bind_eq o (Gv.neg (by decide) (Gv.neg (by decide) (Gv.pos rfl (Gv.tryEr e (by decide) (Gv.bind_eq o (.ok (by rw [decide_eq_true (show O = O from rfl)])))))))
end
/-! ### refused by the reader -/
theorem get_refused {s : BrS} {c : Int} (h : c < 0 ∨ 64 < c ∨ s.stop - s.place < c) : F__law_get_refused s c = .ok (true, s) := by
  have l : F_BitReader_left s = .ok (s.stop - s.place) := rfl
  have ln : noEr (F_BitReader_left s) = .ok (s.stop - s.place) := rfl
  refine Gv.get ?_
  unfold F__law_get_refused
  refine Gv.bind_eq ln ?_
  by_cases a : 0 ≤ c
  · by_cases b : c ≤ 64
    · have e : F_BitReader_get s c = .er 2 := by
        unfold F_BitReader_get F_BitReader__take F_BitReader__look
        rw [if_pos a, if_pos b, bnd_eq, if_pos (by omega)]
        rfl
      exact Gv.tryEr e (by decide) (Gv.neg (by decide) (Gv.pos (by omega) (Gv.pos (decide_eq_true b) (Gv.bind_eq ln (.ok (by rw [decide_eq_true (show s.stop - s.place = s.stop - s.place from rfl)]))))))
    · have e : F_BitReader_get s c = .er 1 := by
        unfold F_BitReader_get
        rw [if_pos a, if_neg b]
      exact Gv.tryEr e (by decide) (Gv.pos rfl (Gv.pos a (Gv.pos (by rw [decide_eq_false b]; rfl) (Gv.bind_eq ln (.ok (by rw [decide_eq_true (show s.stop - s.place = s.stop - s.place from rfl)]))))))
  · have e : F_BitReader_get s c = .er 1 := by
      unfold F_BitReader_get
      rw [if_neg a]
    exact Gv.tryEr e (by decide) (Gv.pos rfl (Gv.neg a (Gv.bind_eq ln (.ok (by rw [decide_eq_true (show s.stop - s.place = s.stop - s.place from rfl)])))))
theorem oct_refused {X : List Int} (h : X ≠ [] → itD X (-1) = 0) : F__law_octets_refused X = .ok true := by
  have e : F_BitReader___init__ X = .er 3 := by
    unfold F_BitReader___init__
    by_cases z : X = []
    · rw [if_pos z]
    · rw [if_neg z, grd_pos (last_in z), if_pos (h z)]
  refine Gv.get ?_
  unfold F__law_octets_refused
  exact Gv.tryEr e (by decide) (.ok (decide_eq_true rfl))
/-! ### bits read -/
theorem sum_two {f : Nat → Int} : ∀ l : List Nat, List.sum (l.map fun j => f j * 2) = List.sum (l.map f) * 2
  | [] => rfl
  | a :: l => by
    rw [List.map_cons, List.map_cons, List.sum_cons, List.sum_cons, sum_two l, Int.add_mul]
theorem sum_nb (f : Nat → Int) : ∀ n : Nat, List.sum ((List.range n).map fun j => f j * 2 ^ (n - 1 - j)) = nb ((List.range n).map f)
  | 0 => rfl
  | n + 1 => by
    rw [List.range_succ, List.map_append, List.map_append, List.sum_append]
    show _ + List.sum [f n * 2 ^ (n + 1 - 1 - n)] = nb ((List.range n).map f ++ [f n])
    rw [nb_snoc, ← sum_nb f n, ← sum_two]
    congr 1
    · refine congrArg List.sum (List.map_congr_left fun j hj => ?_)
      have := List.mem_range.mp hj
      show f j * 2 ^ (n + 1 - 1 - j) = f j * 2 ^ (n - 1 - j) * 2
      rw [show n + 1 - 1 - j = (n - 1 - j) + 1 by omega, Int.pow_succ, Int.mul_assoc]
    · rw [show n + 1 - 1 - n = 0 by omega]
      simp
/-- what bits say -/
theorem sum_bits {X : List Int} {n : Nat} (hl : X.length = n) {g : Int → Int} (hg : ∀ k : Int, 0 ≤ k → k < n → g k = itD X k * 2 ^ Int.toNat ((n : Int) - 1 - k)) : List.sum ((rng 0 n).map g) = nb X := by
  have e : X = (List.range n).map fun (j : Nat) => itD X (j : Int) := by
    apply List.ext_getElem?
    intro i
    by_cases hi : i < n
    · have hx : X[i]? = some X[i] := List.getElem?_eq_getElem (by omega)
      rw [List.getElem?_map, List.getElem?_range hi, hx]
      show _ = some (itD X (i : Int))
      rw [Pb.itD_nat hx]
    · rw [List.getElem?_eq_none (by omega), List.getElem?_eq_none (by rw [List.length_map, List.length_range]; omega)]
  have h2 := sum_nb (fun (j : Nat) => itD X (j : Int)) n
  rw [← e] at h2
  rw [← h2, rng_map]
  refine congrArg List.sum (List.map_congr_left fun j hj => ?_)
  have := List.mem_range.mp hj
  rw [hg _ (by omega) (by omega), Int.zero_add, show Int.toNat ((n : Int) - 1 - (j : Int)) = n - 1 - j by omega]
theorem rr_take {s : BrS} {X Y : List Int} (hc : X.length ≤ 64) (h : RR s (X ++ Y)) : F_BitReader_get s (X.length : Int) = .ok (nb X, brMove s (X.length : Int)) ∧ RR (brMove s (X.length : Int)) Y := by
  have hl := h.len
  rw [List.length_append] at hl
  have m := rr_move h
  have r := rr_look (Z := []) (X := X) (Y := Y) (by rw [List.nil_append]; exact h)
  rw [show s.place + (([] : List Int).length : Int) = s.place from Int.add_zero _] at r
  refine ⟨?_, m⟩
  rw [get_ok h.g (by omega) (by omega), r]
/-! k06 two -/
section
variable {xs ds : List Int} {w : BwS} {B : List Int} {size : Int}
structure St (ds : List Int) : Prop where
  dl : ds.length = 6
  d4 : 0 ≤ itD ds 4 ∧ itD ds 4 < 4294967296
theorem St.gd (s : St ds) (k : Int) (z : 0 ≤ k ∧ k < 6) : -((ds : List Int).length : Int) ≤ k ∧ k < (ds.length : Int) := by rw [s.dl]; omega
theorem bit_in {x : Int} (h : x ∈ B) (b : B01 B) : -(2 ^ 4096) < x ∧ x < 2 ^ 4096 := by
  have := b x h
  exact Pb.big_in (by omega) (by omega)
theorem r5_ok {r l : BrS} {t : Nat} (b : B01 B) (hB : B.length ≤ 40) (ht : t ≤ B.length) (h : RR r (B.drop t)) : F_law_r5 B r (t : Int) ((B.length : Int) - t) l = .ok true := by
  have hl := h.len
  rw [List.length_drop] at hl
  have dl : (B.drop t).length = B.length - t := List.length_drop
  have q := rr_take (X := B.drop t) (Y := []) (by rw [dl]; omega) (by rw [List.append_nil]; exact h)
  rw [show ((B.drop t).length : Int) = (B.length : Int) - t by rw [dl]; omega] at q
  refine Gv.get ?_
  unfold F_law_r5
  refine Gv.bind_eq (a := r.stop - r.place) rfl (Gv.pos (decide_eq_true (by omega)) (Gv.bind_eq q.1 (Gv.grd ⟨by omega, by omega⟩ (Gv.bind_eq (mapA_pure0 (g := fun k => itD B (t + k) * 2 ^ Int.toNat ((B.length : Int) - t - 1 - k)) (fun k hk => ?_) (by rw [rng_len]; omega)) (.ok (decide_eq_true ?_))))))
  · have m := rng_mem hk
    have g : -(B.length : Int) ≤ t + k ∧ t + k < (B.length : Int) := by omega
    have z := bit_in (Pb.itD_mem g) b
    refine Gv.get (Gv.noEr ?_)
    unfold F_law_c6
    exact Gv.grd g (Gv.grd ⟨by omega, by omega, z.1, z.2⟩ (.ok rfl))
  · show nb (B.drop t) = _
    refine (sum_bits (X := B.drop t) (by rw [dl]; omega) fun k k0 k1 => ?_).symm
    have e : itD (B.drop t) k = itD B (t + k) := by
      obtain ⟨j, rfl⟩ : ∃ j : Nat, k = (j : Int) := ⟨k.toNat, by omega⟩
      have hx : B[t + j]? = some B[t + j] := List.getElem?_eq_getElem (by omega)
      have hy : (B.drop t)[j]? = some B[t + j] := by rw [List.getElem?_drop]; exact hx
      rw [Pb.itD_nat hy, show ((t : Int) + (j : Int)) = ((t + j : Nat) : Int) by omega, Pb.itD_nat hx]
    show itD B (t + k) * 2 ^ Int.toNat ((B.length : Int) - t - 1 - k) = _
    rw [e, show (((B.length : Int) - t).toNat : Int) = (B.length : Int) - t by omega]
theorem r4_ok (s : St ds) {r : BrS} {t : Nat} (hw : WR w B) (hB : B.length ≤ 40) (ht : t ≤ B.length) (h : RR r (B.drop t)) : F_law_r4 ds w (B.length : Int) B (t : Int) ((B.length : Int) - t) r = .ok true := by
  refine Gv.get ?_
  unfold F_law_r4
  refine Gv.bind (wr_put_gv hw (by decide) (by decide +kernel) (by omega)) fun w2 hw2 => ?_
  have l2 : (B ++ bitsL 5 64).length = B.length + 64 := by rw [List.length_append, bitsL_len]; rfl
  refine Gv.bind_eq (wr_octets_eq hw2 (by omega)) ?_
  obtain ⟨l, e, hl⟩ := init_pack hw2.b
  have left := hl.len
  rw [l2] at left
  refine Gv.bind_eq e (Gv.grd (s.gd 4 (by decide)) (Gv.bind (Gv.forR (P := fun _ z => z = l) rfl fun i x z hx hz => ?_) fun z hz => ?_))
  · subst hz
    have hx := List.mem_of_getElem? hx
    have bad : x < 0 ∨ 64 < x ∨ z.stop - z.place < x := by
      simp only [List.mem_cons, List.not_mem_nil, or_false] at hx
      rcases hx with rfl | rfl | rfl
      · omega
      · have := Int.emod_nonneg (itD ds 4) (show (40 : Int) ≠ 0 by decide)
        omega
      · omega
    unfold F_law_b5
    refine Gv.bind_eq (get_refused bad) (Gv.pos rfl (Gv.bind_eq (a := z.stop - z.place) rfl (Gv.pos (by omega) (.ok ⟨z, rfl, rfl⟩))))
  · obtain ⟨z', rfl, rfl⟩ := hz
    exact gv_go (.of_eq (r5_ok hw.b hB ht h) rfl)
theorem r2_ok (s : St ds) {c : Int} (hw : WR w B) (hB : B.length ≤ 40) : F_law_r2 xs ds (B.length : Int) B c w = .ok true := by
  have o : F_BitWriter_octets w = .ok (packL B) := wr_octets_eq hw (by omega)
  have wl := hw.len
  have el : noEr (F_BitWriter_length w) = .ok (8 * (w.full.length : Int) + w.bits) := rfl
  refine Gv.get ?_
  unfold F_law_r2
  refine Gv.bind_eq o (Gv.bind_eq (lpacked_eq hw.b (by omega)) (Gv.pos rfl (Gv.bind_eq el (Gv.pos wl.symm (Gv.bind (cell_gv xs 1 (by decide)) fun c1 _ => Gv.bind (draws_gv _ _ (by decide +kernel) (by decide +kernel)) fun v hv => ?_)))))
  have vl : v.length = 5 := hv.len
  have v0 : -(v.length : Int) ≤ 0 ∧ 0 < (v.length : Int) := by omega
  have cl := cutL_len v (some 1) (some (1 + itD v 0))
  refine Gv.grd v0 (Gv.grd (by show _ + 1 ≤ _; omega) (Gv.bind_eq (oct_refused fun _ => Pb.itD_end) (Gv.pos rfl (Gv.bind_eq (oct_refused fun z => absurd rfl z) (Gv.pos rfl ?_)))))
  obtain ⟨r, e, hr⟩ := init_pack hw.b
  refine Gv.bind_eq e (Gv.grd (s.gd 5 (by decide)) (Gv.grd (by omega) (Gv.bnd fun tk htk => ?_)))
  have t0 : 0 ≤ tk ∧ tk ≤ (B.length : Int) := by
    have a := Int.emod_nonneg (itD ds 5) (show (B.length : Int) + 1 ≠ 0 by omega)
    have b := Int.emod_lt_of_pos (itD ds 5) (show 0 < (B.length : Int) + 1 by omega)
    omega
  obtain ⟨t, rfl⟩ : ∃ t : Nat, tk = (t : Int) := ⟨tk.toNat, by omega⟩
  have ht : t ≤ B.length := by omega
  have tl : (B.take t).length = t := by rw [List.length_take]; omega
  have q := rr_take (X := B.take t) (Y := B.drop t) (by omega) (by rw [List.take_append_drop]; exact hr)
  rw [tl] at q
  have left := q.2.len
  rw [List.length_drop] at left
  refine Gv.bind_eq q.1 (Gv.grd ⟨by omega, by omega⟩ (Gv.bind_eq (mapA_pure0 (g := fun k => itD B k * 2 ^ Int.toNat ((t : Int) - 1 - k)) (fun k hk => ?_) (by rw [rng_len]; omega)) (Gv.pos ?_ (Gv.bnd fun lf hlf => ?_))))
  · have m := rng_mem hk
    have g : -(B.length : Int) ≤ k ∧ k < (B.length : Int) := by omega
    have z := bit_in (Pb.itD_mem g) hw.b
    refine Gv.get (Gv.noEr ?_)
    unfold F_law_c3
    exact Gv.grd g (Gv.grd ⟨by omega, by omega, z.1, z.2⟩ (.ok rfl))
  · show nb (B.take t) = _
    rw [Int.toNat_natCast]
    refine (sum_bits (X := B.take t) tl fun k k0 k1 => ?_).symm
    have e : itD (B.take t) k = itD B k := by
      obtain ⟨j, rfl⟩ : ∃ j : Nat, k = (j : Int) := ⟨k.toNat, by omega⟩
      have hx : B[j]? = some B[j] := List.getElem?_eq_getElem (by omega)
      have hy : (B.take t)[j]? = some B[j] := by rw [List.getElem?_take_of_lt (by omega)]; exact hx
      rw [Pb.itD_nat hy, Pb.itD_nat hx]
    show itD B k * 2 ^ Int.toNat ((t : Int) - 1 - k) = _
    rw [e]
  subst hlf
  have d4 := s.d4
  refine Gv.grd (s.gd 4 (by decide)) (Gv.grd (s.gd 4 (by decide)) (Gv.bind (Gv.forR (P := fun _ z => z = brMove r (t : Int)) rfl fun i x z hx hz => ?_) fun z hz => ?_))
  · subst hz
    unfold F_law_b4
    refine Gv.ite (fun a => Gv.bind_eq (get_refused (.inr (.inr (by omega)))) (Gv.pos rfl (.ok ⟨_, rfl, rfl⟩))) fun a => Gv.ite (fun b => Gv.bind_eq (get_refused (.inl b)) (Gv.pos rfl (.ok ⟨_, rfl, rfl⟩))) fun b => .ok ⟨_, rfl, rfl⟩
  · obtain ⟨z', rfl, rfl⟩ := hz
    exact gv_go (.of_eq (r4_ok s hw hB ht q.2) rfl)
theorem r1_ok (s : St ds) {c : Int} (hw : WR w B) (hB : B.length ≤ 40) : F_law_r1 xs ds (B.length : Int) B c w = .ok true := by
  have o : F_BitWriter_octets w = .ok (packL B) := wr_octets_eq hw (by omega)
  have d4 := s.d4
  have g4 := s.gd 4 (by decide)
  refine Gv.get ?_
  unfold F_law_r1
  refine Gv.grd g4 (Gv.grd g4 (Gv.grd g4 (Gv.grd g4 (Gv.bind (Gv.forR (P := fun _ z => z = w) rfl fun i x z hx hz => ?_) fun z hz => ?_))))
  · subst hz
    have hx := List.mem_of_getElem? hx
    simp only [List.mem_cons, List.not_mem_nil, or_false] at hx
    unfold F_law_b2
    rcases hx with rfl | rfl | rfl | rfl
    · exact Gv.bind_eq (ref1 o (ue_er (by omega))) (Gv.pos rfl (.ok ⟨_, rfl, rfl⟩))
    · exact Gv.bind_eq (ref1 o (ue_er (by omega))) (Gv.pos rfl (.ok ⟨_, rfl, rfl⟩))
    · exact Gv.bind_eq (ref2 o (se_er (by omega))) (Gv.pos rfl (.ok ⟨_, rfl, rfl⟩))
    · exact Gv.bind_eq (ref2 o (se_er (by omega))) (Gv.pos rfl (.ok ⟨_, rfl, rfl⟩))
  · obtain ⟨z', rfl, rfl⟩ := hz
    exact gv_go (.of_eq (r2_ok s hw hB) rfl)
end
theorem law_true (xs : List Int) (hx : xs.length ≤ 63) : F_law xs = .ok true := by
  refine Gv.get ?_
  unfold F_law
  refine Gv.bind (cell_gv xs 0 (by decide)) fun c0 _ => Gv.bind (draws_gv _ _ (by decide +kernel) (by decide +kernel)) fun v hv => ?_
  obtain ⟨d0, r0, rfl, b0, c0, hv⟩ := hv.cons
  obtain ⟨d1, r1, rfl, b1, c1, hv⟩ := hv.cons
  obtain ⟨d2, r2, rfl, b2, c2, hv⟩ := hv.cons
  obtain ⟨d3, r3, rfl, b3, c3, hv⟩ := hv.cons
  obtain ⟨d4, r4, rfl, b4, c4, hv⟩ := hv.cons
  obtain ⟨d5, r5, rfl, b5, c5, hv⟩ := hv.cons
  obtain rfl := hv.nil
  have s : St [d0, d1, d2, d3, d4, d5] := ⟨rfl, b4, c4⟩
  have e0 : itD [d0, d1, d2, d3, d4, d5] 0 = d0 := rfl
  have e1 : itD [d0, d1, d2, d3, d4, d5] 1 = d1 := rfl
  have e2 : itD [d0, d1, d2, d3, d4, d5] 2 = d2 := rfl
  have e4 : itD [d0, d1, d2, d3, d4, d5] 4 = d4 := rfl
  have g := fun k z => s.gd k z
  refine Gv.bind_eq (a := (⟨[], 0, 0⟩ : BwS)) rfl (Gv.grd (g 0 (by decide)) (Gv.bnd fun size hsize => ?_))
  rw [e0] at hsize
  subst hsize
  have p2 : (0 : Int) < 1 * 2 ^ Int.toNat size := by rw [Int.one_mul]; exact pow_pos2 _
  have sz : 0 ≤ size ∧ size ≤ 40 := by omega
  rw [e1]
  have vm : 0 ≤ d1 % (1 * 2 ^ Int.toNat size) ∧ d1 % (1 * 2 ^ Int.toNat size) < 2 ^ size.toNat := by
    have a := Int.emod_nonneg d1 (show 1 * 2 ^ Int.toNat size ≠ 0 by omega)
    have b := Int.emod_lt_of_pos d1 p2
    rw [Int.one_mul] at a b ⊢
    exact ⟨a, b⟩
  refine Gv.grd (g 1 (by decide)) (Gv.grd ⟨sz.1, by omega, hi1.1, hi1.2⟩ (Gv.grd p2 (Gv.bind_eq (lbits_eq ⟨sz.1, by omega⟩) (Gv.grd (g 1 (by decide)) (Gv.grd ⟨sz.1, by omega, hi1.1, hi1.2⟩ (Gv.grd p2 (Gv.bind (wr_put_gv wr_nil ⟨sz.1, by omega⟩ vm (by decide)) fun w hw => ?_)))))))
  rw [List.nil_append] at hw
  have bl : (bitsL (d1 % (1 * 2 ^ Int.toNat size)) size).length = size.toNat := bitsL_len _ _
  have o : F_BitWriter_octets w = .ok (packL (bitsL (d1 % (1 * 2 ^ Int.toNat size)) size)) := wr_octets_eq hw (by omega)
  refine Gv.grd (g 2 (by decide)) (Gv.bnd fun c hc => ?_)
  rw [e2] at hc
  subst hc
  have cz : 0 ≤ c ∧ c ≤ 64 := by omega
  rw [e4]
  refine Gv.grd ⟨cz.1, by omega, hi1.1, hi1.2⟩ (Gv.grd (g 4 (by decide)) (Gv.grd ⟨by decide, by decide, hi1.1, hi1.2⟩ (Gv.grd ⟨by decide, by decide, hi1.1, hi1.2⟩ (Gv.grd (g 4 (by decide)) (Gv.grd ⟨cz.1, by omega, hi1.1, hi1.2⟩ (Gv.grd (g 4 (by decide)) (Gv.grd (g 4 (by decide)) (Gv.grd (g 4 (by decide)) (Gv.bind (Gv.forR (P := fun _ z => z = w) rfl fun i x z hx hz => ?_) fun z hz => ?_)))))))))
  · subst hz
    have hx := List.mem_of_getElem? hx
    simp only [List.mem_cons, List.not_mem_nil, or_false] at hx
    have big : ∀ {k : Int}, 1 * 2 ^ Int.toNat k ≤ 1 * 2 ^ Int.toNat k + d4 := fun {k} => Int.le_add_of_nonneg_right b4
    unfold F_law_b1
    rcases hx with rfl | rfl | rfl | rfl | rfl | rfl | rfl
    · exact Gv.bind_eq (ref0 o (put_er fun q => absurd q.2.2 (Int.not_lt.mpr big))) (Gv.pos rfl (.ok ⟨_, rfl, rfl⟩))
    · exact Gv.bind_eq (ref0 o (put_er fun q => absurd q.2.2 (Int.not_lt.mpr (Int.le_refl _)))) (Gv.pos rfl (.ok ⟨_, rfl, rfl⟩))
    · exact Gv.bind_eq (ref0 o (put_er fun q => absurd q.2.2 (Int.not_lt.mpr big))) (Gv.pos rfl (.ok ⟨_, rfl, rfl⟩))
    · exact Gv.bind_eq (ref0 o (put_er fun q => absurd q.2.2 (Int.not_lt.mpr (Int.le_refl _)))) (Gv.pos rfl (.ok ⟨_, rfl, rfl⟩))
    · exact Gv.bind_eq (ref0 o (put_er fun q => absurd q.2.1 (show ¬ (0 : Int) ≤ -1 - d4 by omega))) (Gv.pos rfl (.ok ⟨_, rfl, rfl⟩))
    · exact Gv.bind_eq (ref0 o (put_er fun q => absurd q.1.2 (show ¬ (65 + d4 : Int) ≤ 64 by omega))) (Gv.pos rfl (.ok ⟨_, rfl, rfl⟩))
    · exact Gv.bind_eq (ref0 o (put_er fun q => absurd q.1.1 (show ¬ (0 : Int) ≤ -1 - d4 by omega))) (Gv.pos rfl (.ok ⟨_, rfl, rfl⟩))
  · obtain ⟨z', rfl, rfl⟩ := hz
    refine gv_go ?_
    have fin := r1_ok (xs := xs) (c := c) s hw (by omega)
    rw [bl, show ((size.toNat : Nat) : Int) = size by omega] at fin
    exact .of_eq fin rfl

end Vx
namespace Vx
open PySem PySem.Spec PyProof.Rows L2
def topS (i : Nat) : Stmt := PySem.Challenge.pw_thaumatrope_k06_bits_refused.main.body.getD i (.Pass ⟨0, 0, 0, 0⟩)
abbrev s__law_draws : Stmt := topS 13
abbrev s_BitWriter___init__ : Stmt := inClass (topS 8) 0
abbrev s__law_bits : Stmt := topS 14
abbrev s__last_bit : Stmt := topS 10
abbrev s_BitReader___init__ : Stmt := inClass (topS 9) 0
abbrev s__law_cell : Stmt := topS 12
abbrev s_BitWriter__add : Stmt := inClass (topS 8) 6
abbrev s_BitWriter_put : Stmt := inClass (topS 8) 2
abbrev s_BitWriter_octets : Stmt := inClass (topS 8) 5
abbrev s_BitWriter_put_ue : Stmt := inClass (topS 8) 3
abbrev s_BitWriter_put_se : Stmt := inClass (topS 8) 4
abbrev s__law_put_refused : Stmt := topS 18
abbrev s__law_packed : Stmt := topS 17
abbrev s_BitWriter_length : Stmt := inClass (topS 8) 1
abbrev s__law_octets_refused : Stmt := topS 20
abbrev s_BitReader__look : Stmt := inClass (topS 9) 7
abbrev s_BitReader__take : Stmt := inClass (topS 9) 6
abbrev s_BitReader_get : Stmt := inClass (topS 9) 2
abbrev s_BitReader_left : Stmt := inClass (topS 9) 1
abbrev s__law_get_refused : Stmt := topS 19
abbrev s_law : Stmt := topS 21
structure Ads where
  c_BitWriter : Addr
  c_BitReader : Addr
  x_CodecError : Addr
  x_OutOfRange : Addr
  x_OutOfBits : Addr
  x_BadOctets : Addr
  z0 : Addr
def excA (AD : Ads) : Nat → Addr
  | 0 => AD.x_CodecError
  | 1 => AD.x_OutOfRange
  | 2 => AD.x_OutOfBits
  | 3 => AD.x_BadOctets
  | _ => AD.z0
structure Txt (w : World) (K : PySem.W.Frag) (mg : Str → Option Value) (AD : Ads) : Prop where
  b_abs : mg "abs" = none
  b_int : mg "int" = none
  b_range : mg "range" = none
  b_list : mg "list" = none
  b_len : mg "len" = none
  g_MOST_BITS : ∃ u, mg "MOST_BITS" = some u ∧ RelV (V.int 64) u
  b_isinstance : mg "isinstance" = none
  b_sum : mg "sum" = none
  cl_BitWriter : Cls K AD.c_BitWriter
  n_BitWriter__full : NoAttr K AD.c_BitWriter "_full"
  n_BitWriter__rest : NoAttr K AD.c_BitWriter "_rest"
  n_BitWriter__rest_bits : NoAttr K AD.c_BitWriter "_rest_bits"
  cl_BitReader : Cls K AD.c_BitReader
  n_BitReader__octets : NoAttr K AD.c_BitReader "_octets"
  n_BitReader__place : NoAttr K AD.c_BitReader "_place"
  n_BitReader__end : NoAttr K AD.c_BitReader "_end"
  xg_BadOctets : mg "BadOctets" = some (.ref AD.x_BadOctets)
  xx_BadOctets : PySem.W.excIn K AD.x_BadOctets [.type "ValueError", .type "Exception", .type "BaseException", .type "object"] "ValueError.__new__" = true
  xk_BadOctets : PySem.W.keepIn K (.ref AD.x_BadOctets) = true
  xb_BadOctets : PySem.W.subIn K (.ref AD.x_BadOctets) (.type "BaseException") = some true
  xt_BadOctets : PySem.W.typeIn K (.ref AD.x_BadOctets) = some (.type "type")
  xg_OutOfRange : mg "OutOfRange" = some (.ref AD.x_OutOfRange)
  xx_OutOfRange : PySem.W.excIn K AD.x_OutOfRange [.type "ValueError", .type "Exception", .type "BaseException", .type "object"] "ValueError.__new__" = true
  xk_OutOfRange : PySem.W.keepIn K (.ref AD.x_OutOfRange) = true
  xb_OutOfRange : PySem.W.subIn K (.ref AD.x_OutOfRange) (.type "BaseException") = some true
  xt_OutOfRange : PySem.W.typeIn K (.ref AD.x_OutOfRange) = some (.type "type")
  xg_OutOfBits : mg "OutOfBits" = some (.ref AD.x_OutOfBits)
  xx_OutOfBits : PySem.W.excIn K AD.x_OutOfBits [.type "ValueError", .type "Exception", .type "BaseException", .type "object"] "ValueError.__new__" = true
  xk_OutOfBits : PySem.W.keepIn K (.ref AD.x_OutOfBits) = true
  xb_OutOfBits : PySem.W.subIn K (.ref AD.x_OutOfBits) (.type "BaseException") = some true
  xt_OutOfBits : PySem.W.typeIn K (.ref AD.x_OutOfBits) = some (.type "type")
  xg_CodecError : mg "CodecError" = some (.ref AD.x_CodecError)
  xx_CodecError : PySem.W.excIn K AD.x_CodecError [.type "ValueError", .type "Exception", .type "BaseException", .type "object"] "ValueError.__new__" = true
  xk_CodecError : PySem.W.keepIn K (.ref AD.x_CodecError) = true
  xb_CodecError : PySem.W.subIn K (.ref AD.x_CodecError) (.type "BaseException") = some true
  xt_CodecError : PySem.W.typeIn K (.ref AD.x_CodecError) = some (.type "type")
  xm_OutOfRange_OutOfRange : PySem.W.exmOne K (.ref AD.x_OutOfRange) (.ref AD.x_OutOfRange) = some true
  xm_BadOctets_BadOctets : PySem.W.exmOne K (.ref AD.x_BadOctets) (.ref AD.x_BadOctets) = some true
  xm_OutOfBits_OutOfBits : PySem.W.exmOne K (.ref AD.x_OutOfBits) (.ref AD.x_OutOfBits) = some true
  xmf_OutOfBits_OutOfRange : PySem.W.exmOne K (.ref AD.x_OutOfBits) (.ref AD.x_OutOfRange) = some false
  xo_OutOfRange_CodecError : PySem.W.kitOne K (.ref AD.x_OutOfRange) (.ref AD.x_CodecError) = some true
  xo_BadOctets_CodecError : PySem.W.kitOne K (.ref AD.x_BadOctets) (.ref AD.x_CodecError) = some true
  xo_OutOfBits_CodecError : PySem.W.kitOne K (.ref AD.x_OutOfBits) (.ref AD.x_CodecError) = some true
  xn_OutOfRange_OutOfBits : PySem.W.kitOne K (.ref AD.x_OutOfRange) (.ref AD.x_OutOfBits) = some false
  xn_OutOfRange_BadOctets : PySem.W.kitOne K (.ref AD.x_OutOfRange) (.ref AD.x_BadOctets) = some false
  xn_BadOctets_OutOfBits : PySem.W.kitOne K (.ref AD.x_BadOctets) (.ref AD.x_OutOfBits) = some false
  xc_OutOfRange : ExcC K AD.x_OutOfRange
  xc_BadOctets : ExcC K AD.x_BadOctets
  xc_OutOfBits : ExcC K AD.x_OutOfBits
abbrev pat__law_draws_0 : Pat := (2, [], fun vs _ => vs)
abbrev pats__law_draws : List Pat := [pat__law_draws_0]
abbrev pat_BitWriter___init___0 : Pat := (1, [], fun vs _ => vs)
abbrev pats_BitWriter___init__ : List Pat := [pat_BitWriter___init___0]
abbrev pat__law_bits_0 : Pat := (2, [], fun vs _ => vs)
abbrev pats__law_bits : List Pat := [pat__law_bits_0]
abbrev pat__last_bit_0 : Pat := (1, [], fun vs _ => vs)
abbrev pats__last_bit : List Pat := [pat__last_bit_0]
abbrev pat_BitReader___init___0 : Pat := (2, [], fun vs _ => vs)
abbrev pats_BitReader___init__ : List Pat := [pat_BitReader___init___0]
abbrev pat__law_cell_0 : Pat := (2, [], fun vs _ => vs)
abbrev pats__law_cell : List Pat := [pat__law_cell_0]
abbrev pat_BitWriter__add_0 : Pat := (3, [], fun vs _ => vs)
abbrev pats_BitWriter__add : List Pat := [pat_BitWriter__add_0]
abbrev pat_BitWriter_put_0 : Pat := (3, [], fun vs _ => vs)
abbrev pats_BitWriter_put : List Pat := [pat_BitWriter_put_0]
abbrev pat_BitWriter_octets_0 : Pat := (1, [], fun vs _ => vs)
abbrev pats_BitWriter_octets : List Pat := [pat_BitWriter_octets_0]
abbrev pat_BitWriter_put_ue_0 : Pat := (2, [], fun vs _ => vs)
abbrev pats_BitWriter_put_ue : List Pat := [pat_BitWriter_put_ue_0]
abbrev pat_BitWriter_put_se_0 : Pat := (2, [], fun vs _ => vs)
abbrev pats_BitWriter_put_se : List Pat := [pat_BitWriter_put_se_0]
abbrev pat__law_put_refused_0 : Pat := (4, [], fun vs _ => vs)
abbrev pats__law_put_refused : List Pat := [pat__law_put_refused_0]
abbrev pat__law_packed_0 : Pat := (1, [], fun vs _ => vs)
abbrev pats__law_packed : List Pat := [pat__law_packed_0]
abbrev pats_BitWriter_length : List Pat := []
abbrev pat__law_octets_refused_0 : Pat := (1, [], fun vs _ => vs)
abbrev pats__law_octets_refused : List Pat := [pat__law_octets_refused_0]
abbrev pat_BitReader__look_0 : Pat := (3, [], fun vs _ => vs)
abbrev pats_BitReader__look : List Pat := [pat_BitReader__look_0]
abbrev pat_BitReader__take_0 : Pat := (2, [], fun vs _ => vs)
abbrev pats_BitReader__take : List Pat := [pat_BitReader__take_0]
abbrev pat_BitReader_get_0 : Pat := (2, [], fun vs _ => vs)
abbrev pats_BitReader_get : List Pat := [pat_BitReader_get_0]
abbrev pats_BitReader_left : List Pat := []
abbrev pat__law_get_refused_0 : Pat := (2, [], fun vs _ => vs)
abbrev pats__law_get_refused : List Pat := [pat__law_get_refused_0]
abbrev pats_law : List Pat := []
def sp__law_draws (K : PySem.W.Frag) (AD : Ads) : Sp := fun vs H Q E => ∃ (G : Hp) (cell' : Int) (a_limits : Addr) (limits' : List Int), vs = [.int cell', .ref a_limits] ∧ Same G H ∧ (hideL [] H) a_limits = some (.lst ((limits' : List Int).map V.int)) ∧ cW (F__law_draws cell' limits') (fun v => ∀ p H', H p = none → Same H H' → H' p = some (.lst (v.map V.int)) → Q (.ref p) H') (fun e => ∀ H', Same H H' → E (.ref (excA AD e)) none H')
def sp_BitWriter___init__ (K : PySem.W.Frag) (AD : Ads) : Sp := fun vs H Q E => ∃ (G : Hp) (p_self dx_self : Addr), vs = [.ref p_self] ∧ Same G H ∧ (∀ a ∈ [p_self], G a = none) ∧ H p_self = some (.ins AD.c_BitWriter dx_self []) ∧ cW (F_BitWriter___init__ ) (fun v => ∀ (H' : Hp) (l_full : Addr), SameX p_self H H' → H l_full = none → H' p_self = some (.ins AD.c_BitWriter dx_self [("_full", V.ref l_full), ("_rest", V.int v.rest), ("_rest_bits", V.int v.bits)]) → H' l_full = some (.lst (v.full.map V.int)) → Q .non H') (fun e => ∀ H', SameX p_self H H' → E (.ref (excA AD e)) none H')
def sp__law_bits (K : PySem.W.Frag) (AD : Ads) : Sp := fun vs H Q E => ∃ (G : Hp) (value' : Int) (count' : Int), vs = [.int value', .int count'] ∧ Same G H ∧ cW (F__law_bits value' count') (fun v => ∀ p H', H p = none → Same H H' → H' p = some (.lst (v.map V.int)) → Q (.ref p) H') (fun e => ∀ H', Same H H' → E (.ref (excA AD e)) none H')
def sp__last_bit (K : PySem.W.Frag) (AD : Ads) : Sp := fun vs H Q E => ∃ (G : Hp) (octet' : Int), vs = [.int octet'] ∧ Same G H ∧ cW (F__last_bit octet') (fun v => ∀ H', Same H H' → Q (.int v) H') (fun e => ∀ H', Same H H' → E (.ref (excA AD e)) none H')
def sp_BitReader___init__ (K : PySem.W.Frag) (AD : Ads) : Sp := fun vs H Q E => ∃ (G : Hp) (p_self dx_self : Addr) (a_octets : Addr) (octets' : List Int), vs = [.ref p_self, .ref a_octets] ∧ Same G H ∧ (∀ a ∈ [p_self], G a = none) ∧ H p_self = some (.ins AD.c_BitReader dx_self []) ∧ (hideL [p_self] H) a_octets = some (.lst ((octets' : List Int).map V.int)) ∧ cW (F_BitReader___init__ octets') (fun v => ∀ (H' : Hp) (l_octs : Addr), SameX p_self H H' → H l_octs = none → H' p_self = some (.ins AD.c_BitReader dx_self [("_octets", V.ref l_octs), ("_place", V.int v.place), ("_end", V.int v.stop)]) → H' l_octs = some (.lst (v.octs.map V.int)) → Q .non H') (fun e => ∀ H', SameX p_self H H' → E (.ref (excA AD e)) none H')
def sp__law_cell (K : PySem.W.Frag) (AD : Ads) : Sp := fun vs H Q E => ∃ (G : Hp) (a_script : Addr) (script' : List Int) (k' : Int), vs = [.ref a_script, .int k'] ∧ Same G H ∧ SqL K H a_script ((script' : List Int).map V.int) ∧ cW (F__law_cell script' k') (fun v => Q (.int v) H) (fun e => E (.ref (excA AD e)) none H)
def sp_BitWriter__add (K : PySem.W.Frag) (AD : Ads) : Sp := fun vs H Q E => ∃ (G : Hp) (p_self l_self_full dx_self : Addr) (self' : St_BitWriter) (value' : Int) (count' : Int), vs = [.ref p_self, .int value', .int count'] ∧ Same G H ∧ (∀ a ∈ [p_self, l_self_full], G a = none) ∧ H p_self = some (.ins AD.c_BitWriter dx_self [("_full", V.ref l_self_full), ("_rest", V.int self'.rest), ("_rest_bits", V.int self'.bits)]) ∧ H l_self_full = some (.lst ((self'.full : (List Int)).map V.int)) ∧ cW (F_BitWriter__add self' value' count') (fun v => ∀ (H' : Hp), SameXs [p_self, l_self_full] H H' → H' p_self = some (.ins AD.c_BitWriter dx_self [("_full", V.ref l_self_full), ("_rest", V.int v.rest), ("_rest_bits", V.int v.bits)]) → H' l_self_full = some (.lst ((v.full : (List Int)).map V.int)) → Q .non H') (fun e => ∀ H', Same H H' → E (.ref (excA AD e)) none H')
def sp_BitWriter_put (K : PySem.W.Frag) (AD : Ads) : Sp := fun vs H Q E => ∃ (G : Hp) (p_self l_self_full dx_self : Addr) (self' : St_BitWriter) (value' : Int) (count' : Int), vs = [.ref p_self, .int value', .int count'] ∧ Same G H ∧ (∀ a ∈ [p_self, l_self_full], G a = none) ∧ H p_self = some (.ins AD.c_BitWriter dx_self [("_full", V.ref l_self_full), ("_rest", V.int self'.rest), ("_rest_bits", V.int self'.bits)]) ∧ H l_self_full = some (.lst ((self'.full : (List Int)).map V.int)) ∧ cW (F_BitWriter_put self' value' count') (fun v => ∀ (H' : Hp), SameXs [p_self, l_self_full] H H' → H' p_self = some (.ins AD.c_BitWriter dx_self [("_full", V.ref l_self_full), ("_rest", V.int v.rest), ("_rest_bits", V.int v.bits)]) → H' l_self_full = some (.lst ((v.full : (List Int)).map V.int)) → Q .non H') (fun e => ∀ H', Same H H' → E (.ref (excA AD e)) none H')
def sp_BitWriter_octets (K : PySem.W.Frag) (AD : Ads) : Sp := fun vs H Q E => ∃ (G : Hp) (p_self l_self_full dx_self : Addr) (self' : St_BitWriter), vs = [.ref p_self] ∧ Same G H ∧ (hideL [] H) p_self = some (.ins AD.c_BitWriter dx_self [("_full", V.ref l_self_full), ("_rest", V.int self'.rest), ("_rest_bits", V.int self'.bits)]) ∧ (hideL [] H) l_self_full = some (.lst ((self'.full : (List Int)).map V.int)) ∧ cW (F_BitWriter_octets self') (fun v => ∀ p H', H p = none → Same H H' → H' p = some (.lst (v.map V.int)) → Q (.ref p) H') (fun e => ∀ H', Same H H' → E (.ref (excA AD e)) none H')
def sp_BitWriter_put_ue (K : PySem.W.Frag) (AD : Ads) : Sp := fun vs H Q E => ∃ (G : Hp) (p_self l_self_full dx_self : Addr) (self' : St_BitWriter) (value' : Int), vs = [.ref p_self, .int value'] ∧ Same G H ∧ (∀ a ∈ [p_self, l_self_full], G a = none) ∧ H p_self = some (.ins AD.c_BitWriter dx_self [("_full", V.ref l_self_full), ("_rest", V.int self'.rest), ("_rest_bits", V.int self'.bits)]) ∧ H l_self_full = some (.lst ((self'.full : (List Int)).map V.int)) ∧ cW (F_BitWriter_put_ue self' value') (fun v => ∀ (H' : Hp), SameXs [p_self, l_self_full] H H' → H' p_self = some (.ins AD.c_BitWriter dx_self [("_full", V.ref l_self_full), ("_rest", V.int v.rest), ("_rest_bits", V.int v.bits)]) → H' l_self_full = some (.lst ((v.full : (List Int)).map V.int)) → Q .non H') (fun e => ∀ H', Same H H' → E (.ref (excA AD e)) none H')
def sp_BitWriter_put_se (K : PySem.W.Frag) (AD : Ads) : Sp := fun vs H Q E => ∃ (G : Hp) (p_self l_self_full dx_self : Addr) (self' : St_BitWriter) (value' : Int), vs = [.ref p_self, .int value'] ∧ Same G H ∧ (∀ a ∈ [p_self, l_self_full], G a = none) ∧ H p_self = some (.ins AD.c_BitWriter dx_self [("_full", V.ref l_self_full), ("_rest", V.int self'.rest), ("_rest_bits", V.int self'.bits)]) ∧ H l_self_full = some (.lst ((self'.full : (List Int)).map V.int)) ∧ cW (F_BitWriter_put_se self' value') (fun v => ∀ (H' : Hp), SameXs [p_self, l_self_full] H H' → H' p_self = some (.ins AD.c_BitWriter dx_self [("_full", V.ref l_self_full), ("_rest", V.int v.rest), ("_rest_bits", V.int v.bits)]) → H' l_self_full = some (.lst ((v.full : (List Int)).map V.int)) → Q .non H') (fun e => ∀ H', Same H H' → E (.ref (excA AD e)) none H')
def sp__law_put_refused (K : PySem.W.Frag) (AD : Ads) : Sp := fun vs H Q E => ∃ (G : Hp) (p_writer l_writer_full dx_writer : Addr) (writer' : St_BitWriter) (kind' : Int) (value' : Int) (count' : Int), vs = [.ref p_writer, .int kind', .int value', .int count'] ∧ Same G H ∧ (∀ a ∈ [p_writer, l_writer_full], G a = none) ∧ H p_writer = some (.ins AD.c_BitWriter dx_writer [("_full", V.ref l_writer_full), ("_rest", V.int writer'.rest), ("_rest_bits", V.int writer'.bits)]) ∧ H l_writer_full = some (.lst ((writer'.full : (List Int)).map V.int)) ∧ cW (F__law_put_refused writer' kind' value' count') (fun v => ∀ (H' : Hp), SameXs [p_writer, l_writer_full] H H' → H' p_writer = some (.ins AD.c_BitWriter dx_writer [("_full", V.ref l_writer_full), ("_rest", V.int v.2.rest), ("_rest_bits", V.int v.2.bits)]) → H' l_writer_full = some (.lst ((v.2.full : (List Int)).map V.int)) → Q (.bl v.1) H') (fun e => ∀ H', Same H H' → E (.ref (excA AD e)) none H')
def sp__law_packed (K : PySem.W.Frag) (AD : Ads) : Sp := fun vs H Q E => ∃ (G : Hp) (a_bits : Addr) (bits' : List Int), vs = [.ref a_bits] ∧ Same G H ∧ (hideL [] H) a_bits = some (.lst ((bits' : List Int).map V.int)) ∧ cW (F__law_packed bits') (fun v => ∀ p H', H p = none → Same H H' → H' p = some (.lst (v.map V.int)) → Q (.ref p) H') (fun e => ∀ H', Same H H' → E (.ref (excA AD e)) none H')
def sp_BitWriter_length (K : PySem.W.Frag) (AD : Ads) : Sp := fun vs H Q E => ∃ (G : Hp) (p_self l_self_full dx_self : Addr) (self' : St_BitWriter), vs = [.ref p_self] ∧ Same G H ∧ (hideL [] H) p_self = some (.ins AD.c_BitWriter dx_self [("_full", V.ref l_self_full), ("_rest", V.int self'.rest), ("_rest_bits", V.int self'.bits)]) ∧ (hideL [] H) l_self_full = some (.lst ((self'.full : (List Int)).map V.int)) ∧ cW (F_BitWriter_length self') (fun v => ∀ H', Same H H' → Q (.int v) H') (fun e => ∀ H', Same H H' → E (.ref (excA AD e)) none H')
def sp__law_octets_refused (K : PySem.W.Frag) (AD : Ads) : Sp := fun vs H Q E => ∃ (G : Hp) (a_octets : Addr) (octets' : List Int), vs = [.ref a_octets] ∧ Same G H ∧ (hideL [] H) a_octets = some (.lst ((octets' : List Int).map V.int)) ∧ cW (F__law_octets_refused octets') (fun v => ∀ H', Same H H' → Q (.bl v) H') (fun e => ∀ H', Same H H' → E (.ref (excA AD e)) none H')
def sp_BitReader__look (K : PySem.W.Frag) (AD : Ads) : Sp := fun vs H Q E => ∃ (G : Hp) (p_self l_self_octs dx_self : Addr) (self' : St_BitReader) (place' : Int) (count' : Int), vs = [.ref p_self, .int place', .int count'] ∧ Same G H ∧ (hideL [] H) p_self = some (.ins AD.c_BitReader dx_self [("_octets", V.ref l_self_octs), ("_place", V.int self'.place), ("_end", V.int self'.stop)]) ∧ (hideL [] H) l_self_octs = some (.lst ((self'.octs : (List Int)).map V.int)) ∧ cW (F_BitReader__look self' place' count') (fun v => ∀ H', Same H H' → Q (.int v) H') (fun e => ∀ H', Same H H' → E (.ref (excA AD e)) none H')
def sp_BitReader__take (K : PySem.W.Frag) (AD : Ads) : Sp := fun vs H Q E => ∃ (G : Hp) (p_self l_self_octs dx_self : Addr) (self' : St_BitReader) (count' : Int), vs = [.ref p_self, .int count'] ∧ Same G H ∧ (∀ a ∈ [p_self, l_self_octs], G a = none) ∧ H p_self = some (.ins AD.c_BitReader dx_self [("_octets", V.ref l_self_octs), ("_place", V.int self'.place), ("_end", V.int self'.stop)]) ∧ H l_self_octs = some (.lst ((self'.octs : (List Int)).map V.int)) ∧ cW (F_BitReader__take self' count') (fun v => ∀ (H' : Hp), SameXs [p_self, l_self_octs] H H' → H' p_self = some (.ins AD.c_BitReader dx_self [("_octets", V.ref l_self_octs), ("_place", V.int v.2.place), ("_end", V.int v.2.stop)]) → H' l_self_octs = some (.lst ((v.2.octs : (List Int)).map V.int)) → Q (.int v.1) H') (fun e => ∀ H', Same H H' → E (.ref (excA AD e)) none H')
def sp_BitReader_get (K : PySem.W.Frag) (AD : Ads) : Sp := fun vs H Q E => ∃ (G : Hp) (p_self l_self_octs dx_self : Addr) (self' : St_BitReader) (count' : Int), vs = [.ref p_self, .int count'] ∧ Same G H ∧ (∀ a ∈ [p_self, l_self_octs], G a = none) ∧ H p_self = some (.ins AD.c_BitReader dx_self [("_octets", V.ref l_self_octs), ("_place", V.int self'.place), ("_end", V.int self'.stop)]) ∧ H l_self_octs = some (.lst ((self'.octs : (List Int)).map V.int)) ∧ cW (F_BitReader_get self' count') (fun v => ∀ (H' : Hp), SameXs [p_self, l_self_octs] H H' → H' p_self = some (.ins AD.c_BitReader dx_self [("_octets", V.ref l_self_octs), ("_place", V.int v.2.place), ("_end", V.int v.2.stop)]) → H' l_self_octs = some (.lst ((v.2.octs : (List Int)).map V.int)) → Q (.int v.1) H') (fun e => ∀ H', Same H H' → E (.ref (excA AD e)) none H')
def sp_BitReader_left (K : PySem.W.Frag) (AD : Ads) : Sp := fun vs H Q E => ∃ (G : Hp) (p_self l_self_octs dx_self : Addr) (self' : St_BitReader), vs = [.ref p_self] ∧ Same G H ∧ (hideL [] H) p_self = some (.ins AD.c_BitReader dx_self [("_octets", V.ref l_self_octs), ("_place", V.int self'.place), ("_end", V.int self'.stop)]) ∧ (hideL [] H) l_self_octs = some (.lst ((self'.octs : (List Int)).map V.int)) ∧ cW (F_BitReader_left self') (fun v => ∀ H', Same H H' → Q (.int v) H') (fun e => ∀ H', Same H H' → E (.ref (excA AD e)) none H')
def sp__law_get_refused (K : PySem.W.Frag) (AD : Ads) : Sp := fun vs H Q E => ∃ (G : Hp) (p_reader l_reader_octs dx_reader : Addr) (reader' : St_BitReader) (count' : Int), vs = [.ref p_reader, .int count'] ∧ Same G H ∧ (∀ a ∈ [p_reader, l_reader_octs], G a = none) ∧ H p_reader = some (.ins AD.c_BitReader dx_reader [("_octets", V.ref l_reader_octs), ("_place", V.int reader'.place), ("_end", V.int reader'.stop)]) ∧ H l_reader_octs = some (.lst ((reader'.octs : (List Int)).map V.int)) ∧ cW (F__law_get_refused reader' count') (fun v => ∀ (H' : Hp), SameXs [p_reader, l_reader_octs] H H' → H' p_reader = some (.ins AD.c_BitReader dx_reader [("_octets", V.ref l_reader_octs), ("_place", V.int v.2.place), ("_end", V.int v.2.stop)]) → H' l_reader_octs = some (.lst ((v.2.octs : (List Int)).map V.int)) → Q (.bl v.1) H') (fun e => ∀ H', Same H H' → E (.ref (excA AD e)) none H')
def sp_law (K : PySem.W.Frag) (AD : Ads) : Sp := fun vs H Q E => ∃ (a_script : Addr) (script : List Int), vs = [.ref a_script] ∧ SqL K H a_script (script.map V.int) ∧ cW (F_law script) (fun v => v = true) (fun _ => False) ∧ ∀ H', Q (.bl true) H'
section
variable {P : Program} {w : World} {K : PySem.W.Frag} {mg : Str → Option Value} {base : Heap} {AD : Ads}
abbrev N__law_draws : List Str := ["cell", "limits", "found", "rest", "state", "free", "limit"]
theorem sc__law_draws : FnScope N__law_draws ["cell", "limits"] (defScope s__law_draws) := ⟨rfl, rfl, rfl, by decide +kernel, rfl, by decide +kernel, by decide +kernel⟩
theorem ok__law_draws (D : DefX K mg "_law_draws" s__law_draws ["cell", "limits"] pats__law_draws) (T : Txt w K mg AD)  : CalX P w K mg base 1 "_law_draws" (sp__law_draws K AD) pats__law_draws := by
  refine D.ok sc__law_draws (fun vs H Q E h => ?_) (fun f cdv A_ outer s H vs Q E hr h => ?_)
  · obtain ⟨G, cell', a_limits, limits', rfl, _⟩ := h
    rfl
  · obtain ⟨G, cell', a_limits, limits', rfl, sG, q_limits, hw⟩ := h
    refine ⟨_, (pss_cons (ps_set (i := 2) sc__law_draws.nd rfl (Or.inl rfl) (pe_lst pa_nil))
      (pss_cons (ps_set (i := 3) sc__law_draws.nd rfl (Or.inl rfl) (pe_callB call_abs (by rfl) T.b_abs (by decide +kernel) (pa_cons (pe_callTy call_int1 (by rfl) T.b_int (by decide +kernel) (pa_cons (pv 0) pa_nil)) pa_nil)))
      (pss_cons (ps_set (i := 4) sc__law_draws.nd rfl (Or.inl rfl) (pe_op op_mod (pe_callTy call_int1 (by rfl) T.b_int (by decide +kernel) (pa_cons (pv 3) pa_nil)) pe_int))
      (pss_cons (ps_set (i := 5) sc__law_draws.nd rfl (Or.inl rfl) (pe_or (pe_cmp (pc_lt (pv 0) pe_int)) (pe_one (pe_cmp (pc_ge (pv 0) (pe_op op_pow pe_int pe_int))))))
      (pss_cons (ps_for (passes_of rfl) rfl (pi_listK (K := K) (pv 1)) (pg_name (i := 6) sc__law_draws.nd rfl (Or.inl rfl)) (pss_one (ps_if (PW.pt (pw_and (pt_val (pv 5)) (pw_and1 (pt_cmp (pc_gt (pv 3) pe_int))))) (pss_cons (ps_expr (pe_bm PySem.F.plainAttrs_list PySem.F.slot_list_append PySem.F.type_list_append mt_append (pv 2) (pa_cons (pe_op op_mod (pe_callTy call_int1 (by rfl) T.b_int (by decide +kernel) (pa_cons (pv 3) pa_nil)) (pv 6)) pa_nil)))
      (pss_one (ps_set (i := 3) sc__law_draws.nd rfl (Or.inl rfl) (pe_op op_fdivW (pv 3) (pv 6))))) (pss_cons (ps_set (i := 4) sc__law_draws.nd rfl (Or.inl rfl) (pe_op op_mod (pe_callTy call_int1 (by rfl) T.b_int (by decide +kernel) (pa_cons (pe_op op_add (pe_op op_mul (pv 4) pe_int) pe_int) pa_nil)) pe_int))
      (pss_cons (ps_set (i := 4) sc__law_draws.nd rfl (Or.inl rfl) (pe_op op_mod (pe_callTy call_int1 (by rfl) T.b_int (by decide +kernel) (pa_cons (pe_op op_add (pe_op op_mul (pv 4) pe_int) pe_int) pa_nil)) pe_int))
      (pss_one (ps_expr (pe_bm PySem.F.plainAttrs_list PySem.F.slot_list_append PySem.F.type_list_append mt_append (pv 2) (pa_cons (pe_op op_mod (pe_callTy call_int1 (by rfl) T.b_int (by decide +kernel) (pa_cons (pe_op op_fdivW (pv 4) pe_int) pa_nil)) (pv 6)) pa_nil)))))))))
      (pss_one (ps_ret (pv 2)))))))), ?_⟩
    obtain ⟨KK, EE, hK0, hE, hw⟩ := cW_gen hw
    have S0 := Sep.startG sG
    unfold F__law_draws at hw
    refine ⟨(by show 0 ≤ sizeLine; decide), fun p1 n2 => ?_⟩
    generalize g3 : upd H p1 _ = H4
    obtain ⟨e5, h6⟩ := gen_new n2 g3
    have h7 : H4 p1 = some (.lst ((([] : (List Int)) : (List Int)).map V.int)) := h6
    have fr8 := S0.free n2
    have S9 := S0.new n2 e5 h7 fr8
    refine ⟨_, rfl, .inl ⟨_, rfl, ?_⟩⟩
    refine ⟨_, rfl, ?_⟩
    have hw := cW_bnd hw
    refine ⟨_, rfl, .inl ⟨_, rfl, ?_⟩⟩
    refine ⟨_, _, rfl, rfl, (show (0 : Int) < 2147483647 by decide), ?_⟩
    have hw := cW_bnd hw
    refine vv_or (ta := (tLt (tVar 0) (tC (V.int 0)))) (tb := (tGe (tVar 0) (tOp (rI CPow fun i j => V.int (i ^ j.toNat)) (tC (V.int 10)) (tC (V.int 18))))) (a := decide (cell' < 0)) (b := decide (((10 : Int) ^ Int.toNat 18) ≤ cell')) ?ha12 ?hb13 _ ?_
    case ha12 => exact (vv_cmp (val_var rfl) val_c (fun Q q => ⟨_, _, rfl, rfl, q⟩))
    case hb13 => exact (vv_cmp (val_var rfl) (val_op val_c val_c (fun Q q => ⟨_, _, rfl, rfl, ⟨by decide, by decide, by decide⟩, q⟩)) (fun Q q => ⟨_, _, rfl, rfl, q⟩))
    have hw := cW_bnd hw
    obtain ⟨K16, hK17, hw⟩ := cW_push hw
    refine ⟨_, rfl, _, rfl, ⟨_, (SqL.of (S9.bM _ _ q_limits))⟩, for_list (K := K) (a := a_limits) (xs := (limits' : List Int).map V.int) (fun i σ H' => ∃ (found_18 : (List Int)) (rest_19 : Int) (state_20 : Int) (u21 : Option V) (G' : Hp), σ = [some (V.int (cell')), some (V.ref a_limits), some (V.ref p1), some (V.int rest_19), some (V.int state_20), some (V.bl ((decide (cell' < 0) || decide (((10 : Int) ^ Int.toNat 18) ≤ cell')))), u21] ∧ Same G G' ∧ Sep [] H G G' H' [p1] ∧ H' p1 = some (.lst ((found_18 : (List Int)).map V.int)) ∧ cW (forS (List.drop i (limits')) (found_18, rest_19, state_20) (fun s x => F__law_draws_b1 ((decide (cell' < 0) || decide (((10 : Int) ^ Int.toNat 18) ≤ cell'))) (s.1) (s.2.1) (s.2.2) x)) K16 EE) ?_ ?_ ?_ ?_⟩
    · exact ⟨(([] : (List Int))), ((if cell' < 0 then -cell' else cell')), (((if cell' < 0 then -cell' else cell') % 2147483647)), _, _, rfl, (Same.refl _), S9, h7, hw⟩
    · intro i σ H22 _ hw
      obtain ⟨found_18, rest_19, state_20, u21, G25, rfl, eG26, S23, h24, hw⟩ := hw
      exact (SqL.of (S23.bM _ _ q_limits))
    · intro i x σ H27 hj hw
      obtain ⟨found_18, rest_19, state_20, u21, G30, rfl, eG31, S28, h29, hw⟩ := hw
      obtain ⟨x32, hx, rfl⟩ := map_get hj
      have hw := cW_forS hx hw
      have hw : cW (F__law_draws_b1 ((decide (cell' < 0) || decide (((10 : Int) ^ Int.toNat 18) ≤ cell'))) (found_18) (rest_19) (state_20) (x32)) _ EE := hw
      unfold F__law_draws_b1 at hw
      obtain ⟨K36, hK37, hw⟩ := cW_name hw
      refine ⟨_, rfl, _, rfl, ?_⟩
      refine iteB (fun c39 => ?_) (fun c39 => ?_)
      · have hw := cW_pos c39 hw
        refine ⟨_, rfl, _, _, rfl, rfl, _, rfl, ?_⟩
        refine iteD (fun c40 => ?_) (fun c40 => ?_)
        · have hw := cW_pos c40 hw
          refine ⟨_, rfl, (.inl ⟨rfl, _, SqL.of h29⟩), _, rfl, .inl ⟨_, rfl, ?_⟩⟩
          obtain ⟨g41, hw⟩ := cW_grd hw
          obtain ⟨g42, hw⟩ := cW_grd hw
          refine ⟨_, rfl, _, _, rfl, rfl, g41, _, _, _, rfl, rfl, h29, (app_lenM g42), ?_⟩
          generalize g43 : upd H27 p1 _ = H44
          obtain ⟨x45, h46⟩ := gen_mut g43
          have h47 : H44 p1 = some (.lst (((found_18) ++ [(rest_19 % x32)] : (List Int)).map V.int)) := snoc_map h46
          have S48 := S28.mut1 x45 (.head _) h47
          have hw := cW_bnd hw
          obtain ⟨g50, hw⟩ := cW_grd hw
          refine ⟨_, rfl, _, rfl, _, _, rfl, rfl, (divW_small g50.1 g50.2), ?_⟩
          have hw := cW_bnd hw
          have hw := cW_ok hw
          have hw := hK37 _ hw
          exact ⟨((found_18) ++ [(rest_19 % x32)]), ((rest_19 / x32)), (state_20), _, _, rfl, eG31, S48, h47, hw⟩
        · have hw := cW_neg c40 hw
          refine ⟨_, rfl, _, _, rfl, rfl, (.inr ⟨by decide, by decide⟩), _, _, rfl, rfl, .inl ⟨_, rfl, ?_⟩⟩
          refine ⟨_, _, rfl, rfl, (show (0 : Int) < 2147483647 by decide), ?_⟩
          have hw := cW_bnd hw
          refine ⟨_, rfl, _, _, rfl, rfl, (.inr ⟨by decide, by decide⟩), _, _, rfl, rfl, .inl ⟨_, rfl, ?_⟩⟩
          refine ⟨_, _, rfl, rfl, (show (0 : Int) < 2147483647 by decide), ?_⟩
          have hw := cW_bnd hw
          refine ⟨_, rfl, (.inl ⟨rfl, _, SqL.of h29⟩), _, rfl, _, _, rfl, rfl, (divW_lit (by decide) (by decide)), .inl ⟨_, rfl, ?_⟩⟩
          obtain ⟨g54, hw⟩ := cW_grd hw
          obtain ⟨g55, hw⟩ := cW_grd hw
          refine ⟨_, rfl, _, _, rfl, rfl, g54, _, _, _, rfl, rfl, h29, (app_lenM g55), ?_⟩
          generalize g56 : upd H27 p1 _ = H57
          obtain ⟨x58, h59⟩ := gen_mut g56
          have h60 : H57 p1 = some (.lst (((found_18) ++ [((((((((state_20 * 48271) + 11) % 2147483647) * 69621) + 7) % 2147483647) / 13) % x32)] : (List Int)).map V.int)) := snoc_map h59
          have S61 := S28.mut1 x58 (.head _) h60
          have hw := cW_bnd hw
          have hw := cW_ok hw
          have hw := hK37 _ hw
          exact ⟨((found_18) ++ [((((((((state_20 * 48271) + 11) % 2147483647) * 69621) + 7) % 2147483647) / 13) % x32)]), (rest_19), (((((((state_20 * 48271) + 11) % 2147483647) * 69621) + 7) % 2147483647)), _, _, rfl, eG31, S61, h60, hw⟩
      · have hw := cW_negB c39 hw
        refine iteF ?_
        refine ⟨_, rfl, _, _, rfl, rfl, (.inr ⟨by decide, by decide⟩), _, _, rfl, rfl, .inl ⟨_, rfl, ?_⟩⟩
        refine ⟨_, _, rfl, rfl, (show (0 : Int) < 2147483647 by decide), ?_⟩
        have hw := cW_bnd hw
        refine ⟨_, rfl, _, _, rfl, rfl, (.inr ⟨by decide, by decide⟩), _, _, rfl, rfl, .inl ⟨_, rfl, ?_⟩⟩
        refine ⟨_, _, rfl, rfl, (show (0 : Int) < 2147483647 by decide), ?_⟩
        have hw := cW_bnd hw
        refine ⟨_, rfl, (.inl ⟨rfl, _, SqL.of h29⟩), _, rfl, _, _, rfl, rfl, (divW_lit (by decide) (by decide)), .inl ⟨_, rfl, ?_⟩⟩
        obtain ⟨g65, hw⟩ := cW_grd hw
        obtain ⟨g66, hw⟩ := cW_grd hw
        refine ⟨_, rfl, _, _, rfl, rfl, g65, _, _, _, rfl, rfl, h29, (app_lenM g66), ?_⟩
        generalize g67 : upd H27 p1 _ = H68
        obtain ⟨x69, h70⟩ := gen_mut g67
        have h71 : H68 p1 = some (.lst (((found_18) ++ [((((((((state_20 * 48271) + 11) % 2147483647) * 69621) + 7) % 2147483647) / 13) % x32)] : (List Int)).map V.int)) := snoc_map h70
        have S72 := S28.mut1 x69 (.head _) h71
        have hw := cW_bnd hw
        have hw := cW_ok hw
        have hw := hK37 _ hw
        exact ⟨((found_18) ++ [((((((((state_20 * 48271) + 11) % 2147483647) * 69621) + 7) % 2147483647) / 13) % x32)]), (rest_19), (((((((state_20 * 48271) + 11) % 2147483647) * 69621) + 7) % 2147483647)), _, _, rfl, eG31, S72, h71, hw⟩
    · intro σ H74 hw
      obtain ⟨found_18, rest_19, state_20, u21, G77, rfl, eG78, S75, h76, hw⟩ := hw
      have hw := hK17 _ (cW_forS0 (by rw [List.length_map]) hw)
      have hw : cW (F__law_draws_r1  (found_18) (rest_19) (state_20)) _ EE := hw
      unfold F__law_draws_r1 at hw
      refine ⟨_, rfl, ?_⟩
      have hw := cW_ok hw
      exact hK0 _ hw _ _ fr8 S75.b0 h76

abbrev N_BitWriter___init__ : List Str := ["self"]
theorem sc_BitWriter___init__ : FnScope N_BitWriter___init__ ["self"] (defScope s_BitWriter___init__) := ⟨rfl, rfl, rfl, by decide +kernel, rfl, by decide +kernel, by decide +kernel⟩
theorem ok_BitWriter___init__ (D : InitX K mg AD.c_BitWriter "BitWriter" "BitWriter.__init__" s_BitWriter___init__ ["self"] pats_BitWriter___init__) (T : Txt w K mg AD)  : MakX P w K mg base 1 "BitWriter" AD.c_BitWriter (sp_BitWriter___init__ K AD) pats_BitWriter___init__ := by
  refine D.ok sc_BitWriter___init__ (fun vs H Q E h => ?_) (fun f cdv A_ outer s H vs Q E hr h => ?_)
  · obtain ⟨G, p_self, dx_self, rfl, _⟩ := h
    rfl
  · obtain ⟨G, p_self, dx_self, rfl, sG, gM, h_self, hw⟩ := h
    refine ⟨_, (pss_cons (ps_fld (pv 0) (pe_lst pa_nil) rfl)
      (pss_cons (ps_fld (pv 0) pe_int rfl)
      (pss_one (ps_fld (pv 0) pe_int rfl)))), ?_⟩
    obtain ⟨KK, EE, hK0, hE, hw⟩ := cW_gen hw
    have S0 := Sep.startM (M := [p_self]) sG (all_cons (some_ne h_self) all_nil) gM
    unfold F_BitWriter___init__ at hw
    refine ⟨(by show 0 ≤ sizeLine; decide), fun p82 n83 => ?_⟩
    generalize g84 : upd H p82 _ = H85
    obtain ⟨e86, h87⟩ := gen_new n83 g84
    have h88 : H85 p82 = some (.lst ((([] : (List Int)) : (List Int)).map V.int)) := h87
    have fr89 := S0.free n83
    have S90 := S0.new n83 e86 h88 fr89
    have h91 := (e86 _ _ h_self)
    refine ⟨_, rfl, _, _, _, _, rfl, h91, T.cl_BitWriter, T.n_BitWriter__full, (by show 0 < 1000; decide), ?_⟩
    generalize g92 : upd H85 p_self _ = H93
    obtain ⟨x94, h95⟩ := gen_mut g92
    have h96 : H93 p_self = some (.ins AD.c_BitWriter dx_self [("_full", V.ref p82)]) := h95
    have S97 := S90.mut1 x94 (.tail _ (.head _)) h96
    refine ⟨_, rfl, _, _, _, _, rfl, h96, T.cl_BitWriter, T.n_BitWriter__rest, (by show 1 < 1000; decide), ?_⟩
    generalize g98 : upd H93 p_self _ = H99
    obtain ⟨x100, h101⟩ := gen_mut g98
    have h102 : H99 p_self = some (.ins AD.c_BitWriter dx_self [("_full", V.ref p82), ("_rest", V.int (0))]) := h101
    have S103 := S97.mut1 x100 (.tail _ (.head _)) h102
    refine ⟨_, rfl, _, _, _, _, rfl, h102, T.cl_BitWriter, T.n_BitWriter__rest_bits, (by show 2 < 1000; decide), ?_⟩
    generalize g104 : upd H99 p_self _ = H105
    obtain ⟨x106, h107⟩ := gen_mut g104
    have h108 : H105 p_self = some (.ins AD.c_BitWriter dx_self [("_full", V.ref p82), ("_rest", V.int (0)), ("_rest_bits", V.int (0))]) := h107
    have S109 := S103.mut1 x106 (.tail _ (.head _)) h108
    have h110 := (x106 _ _ (x100 _ _ (x94 _ _ h88 (ne_of_none h_self n83).symm) (ne_of_none h_self n83).symm) (ne_of_none h_self n83).symm)
    have hw := cW_ok hw
    exact hK0 _ hw _ _ (sameX_of S109.base) fr89 h108 h110

abbrev N__law_bits : List Str := ["value", "count", "k"]
theorem sc__law_bits : FnScope N__law_bits ["value", "count"] (defScope s__law_bits) := ⟨rfl, rfl, rfl, by decide +kernel, rfl, by decide +kernel, by decide +kernel⟩
theorem ok__law_bits (D : DefX K mg "_law_bits" s__law_bits ["value", "count"] pats__law_bits) (T : Txt w K mg AD)  : CalX P w K mg base 1 "_law_bits" (sp__law_bits K AD) pats__law_bits := by
  refine D.ok sc__law_bits (fun vs H Q E h => ?_) (fun f cdv A_ outer s H vs Q E hr h => ?_)
  · obtain ⟨G, value', count', rfl, _⟩ := h
    rfl
  · obtain ⟨G, value', count', rfl, sG, hw⟩ := h
    refine ⟨_, (pss_one (ps_ret (pe_lc (own := [("k", 2)]) (g := gName 2) (by rfl) sc__law_bits.nd (pi_range1 rfl T.b_range (pa_cons (pv 1) pa_nil)) (blkOk_by (own := [("k", 2)]) (N := N__law_bits) (sc := defScope s__law_bits) (by decide +kernel)) (fun _ _ _ _ _ => (pg_name (i := 2) sc__law_bits.nd rfl (Or.inl rfl))) (fun _ _ _ _ _ => pts_nil) (fun _ _ _ _ _ => (pe_op op_and (pe_op op_shr (pv 0) (pe_op op_sub (pe_op op_sub (pv 1) pe_int) (pv 2))) pe_int))))), ?_⟩
    obtain ⟨KK, EE, hK0, hE, hw⟩ := cW_gen hw
    have S0 := Sep.startG sG
    unfold F__law_bits at hw
    obtain ⟨g111, hw⟩ := cW_grd hw
    obtain ⟨K115, hK116, hw⟩ := cW_push hw
    refine ⟨_, rfl, _, rfl, g111.1, g111.2, fun D117 n118 => lc_range (lo := 0) (n := Int.toNat (count')) (fun i1 H' => ∃ (G' : Hp) (acc120 : (List Int)), Same G G' ∧ Sep [] H G G' H' [D117] ∧ H' D117 = some (.lst ((acc120 : (List Int)).map V.int)) ∧ Same H H' ∧ cW (mapA (List.drop i1 (rng (0) (Int.toNat (count')))) acc120 (fun x => noEr (F__law_bits_c1 (value') (count') x))) K115 EE) ?_ ?_ ?_⟩
    · generalize g122 : upd H D117 _ = H123
      obtain ⟨e124, h125⟩ := gen_new n118 g122
      have fr126 := S0.free n118
      have S127 := S0.new n118 e124 h125 fr126
      exact ⟨_, [], Same.refl _, S127, h125, e124, hw⟩
    · intro i1 H128 hi hw
      obtain ⟨G131, acc133, eG132, S129, h130, eo139, hw⟩ := hw
      obtain ⟨z140, hw⟩ := cW_mapA (rng_get hi) hw
      generalize (0 + (i1 : Int)) = x141 at hw ⊢
      have hw := cW_noEr hw
      have hw : cW (F__law_bits_c1 (value') (count') (x141)) _ (fun _ => False) := hw
      unfold F__law_bits_c1 at hw
      refine ⟨rfl, ?_⟩
      refine tyes_go ?_
      obtain ⟨g143, hw⟩ := cW_grd hw
      refine ⟨_, rfl, _, rfl, _, _, rfl, rfl, _, rfl, _, _, rfl, rfl, _, _, rfl, rfl, g143, _, _, rfl, rfl, _, h130, (app_lenM z140), ?_⟩
      generalize g144 : upd H128 D117 _ = H145
      obtain ⟨x146, h147⟩ := gen_mut g144
      have S148 := S129.mut1 x146 (.head _) h147
      have hw := cW_ok hw
      exact ⟨_, (acc133 ++ [(PySem.Builtin.bitAnd ((value' / 2 ^ Int.toNat (((count' - 1) - x141)))) (1))]), eG132, S148, (snoc_map h147), (same_mut eo139 x146 n118), hw⟩
    intro H149 hw
    obtain ⟨G152, acc154, eG153, S150, h151, eo160, hw⟩ := hw
    have hw := hK116 _ (cW_mapA0 (rng_len _ _).symm hw)
    have fr161 := S0.free n118
    have hw := cW_ok hw
    exact hK0 _ hw _ _ fr161 S150.b0 h151

abbrev N__last_bit : List Str := ["octet", "bits"]
theorem sc__last_bit : FnScope N__last_bit ["octet"] (defScope s__last_bit) := ⟨rfl, rfl, rfl, by decide +kernel, rfl, by decide +kernel, by decide +kernel⟩
theorem ok__last_bit (D : DefX K mg "_last_bit" s__last_bit ["octet"] pats__last_bit) (T : Txt w K mg AD)  : CalX P w K mg base 1 "_last_bit" (sp__last_bit K AD) pats__last_bit := by
  refine D.ok sc__last_bit (fun vs H Q E h => ?_) (fun f cdv A_ outer s H vs Q E hr h => ?_)
  · obtain ⟨G, octet', rfl, _⟩ := h
    rfl
  · obtain ⟨G, octet', rfl, sG, hw⟩ := h
    refine ⟨_, (pss_cons (ps_set (i := 1) sc__last_bit.nd rfl (Or.inl rfl) pe_int)
      (pss_cons (ps_while (passes_of rfl) (pt_cmp (pc_eqI (pe_op op_and (pe_op op_shr (pv 0) (pe_op op_sub (pv 1) pe_int)) pe_int) pe_int)) (pss_one (ps_aug (i := 1) sc__last_bit.nd rfl (Or.inl rfl) pe_int (pip iop_add))))
      (pss_one (ps_ret (pv 1))))), ?_⟩
    obtain ⟨KK, EE, hK0, hE, hw⟩ := cW_gen hw
    have S0 := Sep.startG sG
    unfold F__last_bit at hw
    obtain ⟨K163, hK164, hw⟩ := cW_push hw
    refine ⟨fun m σ H' => ∃ (bits_165 : Int) (G' : Hp), σ = [some (V.int (octet')), some (V.int bits_165)] ∧ Same G G' ∧ Sep [] H G G' H' [] ∧ cW (whileR m bits_165 (fun s => F__last_bit_b1 (octet') s)) K163 EE, ?_, ?_⟩
    · exact ⟨_, ⟨(1), _, rfl, (Same.refl _), S0, hw⟩⟩
    · intro m σ H166 hw
      obtain ⟨bits_165, G168, rfl, eG169, S167, hw⟩ := hw
      obtain ⟨m170, rfl, hw2⟩ := cW_whileR hw
      have hw := hw2
      have hw : cW (F__last_bit_b1 (octet') (bits_165)) _ EE := hw
      unfold F__last_bit_b1 at hw
      obtain ⟨K172, hK173, hw⟩ := cW_name hw
      obtain ⟨g174, hw⟩ := cW_grd hw
      refine ⟨_, rfl, _, rfl, _, _, rfl, rfl, _, _, rfl, rfl, g174, _, _, rfl, rfl, _, _, rfl, rfl, _, rfl, ?_⟩
      refine iteD (fun c175 => ?_) (fun c175 => ?_)
      · have hw := cW_pos c175 hw
        refine ⟨(fun σ H' => ∃ m, (∃ (bits_165 : Int) (G' : Hp), σ = [some (V.int (octet')), some (V.int bits_165)] ∧ Same G G' ∧ Sep [] H G G' H' [] ∧ cW (whileR m bits_165 (fun s => F__last_bit_b1 (octet') s)) K163 EE) ∧ m < m170 + 1), (fun _ _ ⟨m', a, b⟩ => ⟨m', b, a⟩), ?_⟩
        refine ⟨_, rfl, _, _, rfl, rfl, ?_⟩
        have hw := cW_bnd hw
        have hw := cW_ok hw
        have hw := hK173 _ hw
        exact ⟨m170, ⟨((bits_165 + 1)), _, rfl, eG169, S167, hw⟩, Nat.lt_succ_self _⟩
      · have hw := cW_neg c175 hw
        have hw := cW_ok hw
        have hw := hK173 _ hw
        have hw := cW_aftgo (hK164 (.go _) hw)
        have hw : cW (F__last_bit_r1  (bits_165)) _ EE := hw
        unfold F__last_bit_r1 at hw
        refine ⟨_, rfl, ?_⟩
        have hw := cW_ok hw
        exact hK0 _ hw _ S167.b0

abbrev N_BitReader___init__ : List Str := ["self", "octets"]
theorem sc_BitReader___init__ : FnScope N_BitReader___init__ ["self", "octets"] (defScope s_BitReader___init__) := ⟨rfl, rfl, rfl, by decide +kernel, rfl, by decide +kernel, by decide +kernel⟩
theorem ok_BitReader___init__ (D : InitX K mg AD.c_BitReader "BitReader" "BitReader.__init__" s_BitReader___init__ ["self", "octets"] pats_BitReader___init__) (T : Txt w K mg AD) (c__last_bit : CalX P w K mg base 1 "_last_bit" (sp__last_bit K AD) pats__last_bit) : MakX P w K mg base 2 "BitReader" AD.c_BitReader (sp_BitReader___init__ K AD) pats_BitReader___init__ := by
  refine D.ok sc_BitReader___init__ (fun vs H Q E h => ?_) (fun f cdv A_ outer s H vs Q E hr h => ?_)
  · obtain ⟨G, p_self, dx_self, a_octets, octets', rfl, _⟩ := h
    rfl
  · obtain ⟨G, p_self, dx_self, a_octets, octets', rfl, sG, gM, h_self, q_octets, hw⟩ := h
    refine ⟨_, (pss_cons (ps_if (PW.pt (pw_or (pt_not (pt_truth (pv 1) (fun _ => rfl))) (pw_or1 (pt_cmp (pc_eqI (pe_ix (ix_listK (K := K)) (pv 1) (pe_un un_neg pe_int) (fun _ _ => rfl)) pe_int))))) (pss_one (ps_raise rfl (takes_of rfl rfl rfl rfl) (pmk_own PySem.F.excBase_ValueError T.xx_BadOctets T.xg_BadOctets T.xk_BadOctets (raises_own T.xb_BadOctets T.xt_BadOctets) rfl))) pss_nil)
      (pss_cons (ps_fld (pv 0) (pe_callTy (call_listLK (K := K)) (by rfl) T.b_list (by decide +kernel) (pa_cons (pv 1) pa_nil)) rfl)
      (pss_cons (ps_fld (pv 0) pe_int rfl)
      (pss_one (ps_fld (pv 0) (pe_op op_sub (pe_op op_mul pe_int (pe_callB (call_lenLiK (K := K)) (by rfl) T.b_len (by decide +kernel) (pa_cons (pv 1) pa_nil))) (vx_callX c__last_bit pat__last_bit_0 (.head _) hr (by decide) (takes_of rfl rfl rfl rfl) rfl (pa_cons (pe_ix (ix_listK (K := K)) (pv 1) (pe_un un_neg pe_int) (fun _ _ => rfl)) pa_nil) pk_nil)) rfl))))), ?_⟩
    obtain ⟨KK, EE, hK0, hE, hw⟩ := cW_gen hw
    have S0 := Sep.startM (M := [p_self]) sG (all_cons (some_ne h_self) all_nil) gM
    unfold F_BitReader___init__ at hw
    refine ⟨_, rfl, _, (.inl ⟨_, (SqL.of (S0.bM _ _ q_octets)), tru_map⟩), ?_⟩
    refine iteNN ?_
    refine iteD (fun c178 => ?_) (fun c178 => ?_)
    · have hw := cW_pos c178 hw
      refine iteT ?_
      exact hE 3 (cW_er hw) _ (sameX_of S0.base)
    · have hw := cW_neg c178 hw
      obtain ⟨g179, hw⟩ := cW_grd hw
      refine ⟨_, rfl, _, rfl, _, _, _, _, rfl, rfl, (SqL.of (S0.bM _ _ q_octets)), (atI_map g179), _, _, rfl, rfl, _, rfl, ?_⟩
      refine iteD (fun c180 => ?_) (fun c180 => ?_)
      · have hw := cW_pos c180 hw
        exact hE 3 (cW_er hw) _ (sameX_of S0.base)
      · have hw := cW_neg c180 hw
        refine ⟨_, rfl, _, _, rfl, (SqL.of (S0.bM _ _ q_octets)), fun p181 n182 => ?_⟩
        generalize g183 : upd H p181 _ = H184
        obtain ⟨e185, h186⟩ := gen_new n182 g183
        have h187 : H184 p181 = some (.lst ((octets' : (List Int)).map V.int)) := h186
        have fr188 := S0.free n182
        have S189 := S0.new n182 e185 h187 fr188
        have h190 := (e185 _ _ h_self)
        refine ⟨_, rfl, _, _, _, _, rfl, h190, T.cl_BitReader, T.n_BitReader__octets, (by show 0 < 1000; decide), ?_⟩
        generalize g191 : upd H184 p_self _ = H192
        obtain ⟨x193, h194⟩ := gen_mut g191
        have h195 : H192 p_self = some (.ins AD.c_BitReader dx_self [("_octets", V.ref p181)]) := h194
        have S196 := S189.mut1 x193 (.tail _ (.head _)) h195
        refine ⟨_, rfl, _, _, _, _, rfl, h195, T.cl_BitReader, T.n_BitReader__place, (by show 1 < 1000; decide), ?_⟩
        generalize g197 : upd H192 p_self _ = H198
        obtain ⟨x199, h200⟩ := gen_mut g197
        have h201 : H198 p_self = some (.ins AD.c_BitReader dx_self [("_octets", V.ref p181), ("_place", V.int (0))]) := h200
        have S202 := S196.mut1 x199 (.tail _ (.head _)) h201
        obtain ⟨g203, hw⟩ := cW_grd hw
        refine ⟨_, rfl, _, _, rfl, (SqL.of (S202.bM _ _ q_octets)), _, _, rfl, rfl, (.inl ⟨by decide, by decide⟩), _, rfl, _, rfl, _, _, _, _, rfl, rfl, (SqL.of (S202.bM _ _ q_octets)), (atI_map g203), rfl, rfl, G, _, rfl, S202.sG, cW_call hw (fun v204 hw H205 e206 => ?_) (fun e he H2 e2 => hE e he H2 (fun b o h n => e2 _ _ ((sameX_of S202.base) b o h n)))⟩
        have S207 := S202.same e206
        have h208 := (e206 _ _ h201)
        have hw := cW_bnd hw
        refine ⟨_, _, rfl, rfl, _, rfl, _, _, _, _, rfl, h208, T.cl_BitReader, T.n_BitReader__end, (by show 2 < 1000; decide), ?_⟩
        generalize g210 : upd H205 p_self _ = H211
        obtain ⟨x212, h213⟩ := gen_mut g210
        have h214 : H211 p_self = some (.ins AD.c_BitReader dx_self [("_octets", V.ref p181), ("_place", V.int (0)), ("_end", V.int (((8 * (((octets') : (List Int)).length : Int)) - v204)))]) := h213
        have S215 := S207.mut1 x212 (.tail _ (.head _)) h214
        have h216 := (x212 _ _ (e206 _ _ (x199 _ _ (x193 _ _ h187 (ne_of_none h_self n182).symm) (ne_of_none h_self n182).symm)) (ne_of_none h_self n182).symm)
        have hw := cW_ok hw
        exact hK0 _ hw _ _ (sameX_of S215.base) fr188 h214 h216

abbrev N__law_cell : List Str := ["script", "k"]
theorem sc__law_cell : FnScope N__law_cell ["script", "k"] (defScope s__law_cell) := ⟨rfl, rfl, rfl, by decide +kernel, rfl, by decide +kernel, by decide +kernel⟩
theorem ok__law_cell (D : DefX K mg "_law_cell" s__law_cell ["script", "k"] pats__law_cell) (T : Txt w K mg AD)  : CalX P w K mg base 1 "_law_cell" (sp__law_cell K AD) pats__law_cell := by
  refine D.ok sc__law_cell (fun vs H Q E h => ?_) (fun f cdv A_ outer s H vs Q E hr h => ?_)
  · obtain ⟨G, a_script, script', k', rfl, _⟩ := h
    rfl
  · obtain ⟨G, a_script, script', k', rfl, sG, q_script, hw⟩ := h
    refine ⟨_, (pss_cons (ps_if (pt_cmp (pc_lt (pv 1) (pe_callB (call_lenLiK (K := K)) (by rfl) T.b_len (by decide +kernel) (pa_cons (pv 0) pa_nil)))) (pss_one (ps_ret (pe_callTy call_int1 (by rfl) T.b_int (by decide +kernel) (pa_cons (pe_ix (ix_listK (K := K)) (pv 0) (pv 1) (fun _ _ => rfl)) pa_nil)))) pss_nil)
      (pss_one (ps_ret pe_int))), ?_⟩
    obtain ⟨KK, EE, hK0, hE, hw⟩ := cW_gen hw
    have S0 := Sep.startG sG
    unfold F__law_cell at hw
    refine ⟨_, rfl, _, rfl, _, _, rfl, (S0.b0.seq q_script), _, _, rfl, rfl, _, rfl, ?_⟩
    refine iteD (fun c217 => ?_) (fun c217 => ?_)
    · have hw := cW_pos c217 hw
      obtain ⟨g218, hw⟩ := cW_grd hw
      refine ⟨_, rfl, _, rfl, _, _, _, _, rfl, rfl, (S0.b0.seq q_script), (atI_map g218), .inl ⟨_, rfl, ?_⟩⟩
      have hw := cW_ok hw
      exact hK0 _ hw
    · have hw := cW_neg c217 hw
      have hw := cW_ok hw
      exact hK0 _ hw

abbrev N_BitWriter__add : List Str := ["self", "value", "count", "rest", "left"]
theorem sc_BitWriter__add : FnScope N_BitWriter__add ["self", "value", "count"] (defScope s_BitWriter__add) := ⟨rfl, rfl, rfl, by decide +kernel, rfl, by decide +kernel, by decide +kernel⟩
theorem ok_BitWriter__add (D : MethX K AD.c_BitWriter "BitWriter._add" "_add" s_BitWriter__add ["self", "value", "count"] pats_BitWriter__add) (T : Txt w K mg AD)  : MetX P w K mg base 1 AD.c_BitWriter "_add" (sp_BitWriter__add K AD) pats_BitWriter__add := by
  refine D.ok T.cl_BitWriter sc_BitWriter__add (fun vs H Q E h => ?_) (fun f cdv A_ outer s H vs Q E hr h => ?_)
  · obtain ⟨G, p_self, l_self_full, dx_self, self', value', count', rfl, _⟩ := h
    rfl
  · obtain ⟨G, p_self, l_self_full, dx_self, self', value', count', rfl, sG, gM, h_p_self, h_l_self_full, hw⟩ := h
    refine ⟨_, (pss_cons (ps_set (i := 3) sc_BitWriter__add.nd rfl (Or.inl rfl) (pe_op op_or (pe_op op_shlW (fldK (K := K) (pv 0)) (pv 2)) (pv 1)))
      (pss_cons (ps_set (i := 4) sc_BitWriter__add.nd rfl (Or.inl rfl) (pe_op op_add (fldK (K := K) (pv 0)) (pv 2)))
      (pss_cons (ps_while (passes_of rfl) (pt_cmp (pc_ge (pv 4) pe_int)) (pss_cons (ps_aug (i := 4) sc_BitWriter__add.nd rfl (Or.inl rfl) pe_int (pip iop_sub))
      (pss_cons (ps_expr (pe_bm PySem.F.plainAttrs_list PySem.F.slot_list_append PySem.F.type_list_append mt_append (fldK (K := K) (pv 0)) (pa_cons (pe_op op_shr (pv 3) (pv 4)) pa_nil)))
      (pss_one (ps_aug (i := 3) sc_BitWriter__add.nd rfl (Or.inl rfl) (pe_op op_sub (pe_op op_shlW pe_int (pv 4)) pe_int) (pip iop_and))))))
      (pss_cons (ps_fld (pv 0) (pv 3) rfl)
      (pss_one (ps_fld (pv 0) (pv 4) rfl)))))), ?_⟩
    obtain ⟨KK, EE, hK0, hE, hw⟩ := cW_gen hw
    have S0 := Sep.startM (M := [p_self, l_self_full]) sG (all_cons (some_ne h_p_self) (all_cons (some_ne h_l_self_full) all_nil)) gM
    unfold F_BitWriter__add at hw
    obtain ⟨g219, hw⟩ := cW_grd hw
    refine ⟨_, rfl, _, _, _, _, _, rfl, h_p_self, T.cl_BitWriter, T.n_BitWriter__rest, rfl, _, rfl, _, _, rfl, rfl, (shl_side g219.1 g219.2.1 g219.2.2.1 g219.2.2.2), _, rfl, _, _, rfl, rfl, ?_⟩
    have hw := cW_bnd hw
    refine ⟨_, rfl, _, _, _, _, _, rfl, h_p_self, T.cl_BitWriter, T.n_BitWriter__rest_bits, rfl, _, rfl, _, _, rfl, rfl, ?_⟩
    have hw := cW_bnd hw
    obtain ⟨K222, hK223, hw⟩ := cW_push hw
    refine ⟨fun m σ H' => ∃ (self_224 : St_BitWriter) (rest_225 : Int) (left_226 : Int) (G' : Hp), σ = [some (V.ref p_self), some (V.int (value')), some (V.int (count')), some (V.int rest_225), some (V.int left_226)] ∧ Same G G' ∧ Sep [p_self, l_self_full] H G G' H' [p_self, l_self_full] ∧ H' p_self = some (.ins AD.c_BitWriter dx_self [("_full", V.ref l_self_full), ("_rest", V.int (self_224.rest)), ("_rest_bits", V.int (self_224.bits))]) ∧ H' l_self_full = some (.lst ((self_224.full : (List Int)).map V.int)) ∧ cW (whileR m (self_224, rest_225, left_226) (fun s => F_BitWriter__add_b1  (s.1) (s.2.1) (s.2.2))) K222 EE, ?_, ?_⟩
    · exact ⟨_, ⟨(self'), ((PySem.Builtin.bitOr ((self'.rest * 2 ^ Int.toNat (count'))) (value'))), ((self'.bits + count')), _, rfl, (Same.refl _), S0, h_p_self, h_l_self_full, hw⟩⟩
    · intro m σ H227 hw
      obtain ⟨self_224, rest_225, left_226, G231, rfl, eG232, S228, h229, h230, hw⟩ := hw
      obtain ⟨m233, rfl, hw2⟩ := cW_whileR hw
      have hw := hw2
      have hw : cW (F_BitWriter__add_b1  (self_224) (rest_225) (left_226)) _ EE := hw
      unfold F_BitWriter__add_b1 at hw
      obtain ⟨K237, hK238, hw⟩ := cW_name hw
      refine ⟨_, rfl, _, _, rfl, rfl, _, rfl, ?_⟩
      refine iteD (fun c239 => ?_) (fun c239 => ?_)
      · have hw := cW_pos c239 hw
        refine ⟨(fun σ H' => ∃ m, (∃ (self_224 : St_BitWriter) (rest_225 : Int) (left_226 : Int) (G' : Hp), σ = [some (V.ref p_self), some (V.int (value')), some (V.int (count')), some (V.int rest_225), some (V.int left_226)] ∧ Same G G' ∧ Sep [p_self, l_self_full] H G G' H' [p_self, l_self_full] ∧ H' p_self = some (.ins AD.c_BitWriter dx_self [("_full", V.ref l_self_full), ("_rest", V.int (self_224.rest)), ("_rest_bits", V.int (self_224.bits))]) ∧ H' l_self_full = some (.lst ((self_224.full : (List Int)).map V.int)) ∧ cW (whileR m (self_224, rest_225, left_226) (fun s => F_BitWriter__add_b1  (s.1) (s.2.1) (s.2.2))) K222 EE) ∧ m < m233 + 1), (fun _ _ ⟨m', a, b⟩ => ⟨m', b, a⟩), ?_⟩
        refine ⟨_, rfl, _, _, rfl, rfl, ?_⟩
        have hw := cW_bnd hw
        obtain ⟨g241, hw⟩ := cW_grd hw
        obtain ⟨g242, hw⟩ := cW_grd hw
        refine ⟨_, rfl, _, _, _, _, _, rfl, h229, T.cl_BitWriter, T.n_BitWriter__full, rfl, (.inl ⟨rfl, _, SqL.of h230⟩), _, rfl, _, rfl, _, _, rfl, rfl, g241, _, _, _, rfl, rfl, h230, (app_lenM g242), ?_⟩
        generalize g243 : upd H227 l_self_full _ = H244
        obtain ⟨x245, h246⟩ := gen_mut g243
        have h247 : H244 l_self_full = some (.lst (((self_224.full) ++ [(rest_225 / 2 ^ Int.toNat ((left_226 - 8)))] : (List Int)).map V.int)) := snoc_map h246
        have S248 := S228.mut1 x245 (.tail _ (.head _)) h247
        have hw := cW_bnd hw
        obtain ⟨g250, hw⟩ := cW_grd hw
        refine ⟨_, rfl, _, rfl, _, _, rfl, rfl, (shl_side g250.1 g250.2.1 g250.2.2.1 g250.2.2.2), _, _, rfl, rfl, _, _, rfl, rfl, ?_⟩
        have hw := cW_bnd hw
        have hw := cW_ok hw
        have hw := hK238 _ hw
        have h252 := (x245 _ _ h229 (ne_of h229 h230 (fun z => nomatch z)))
        exact ⟨m233, ⟨((⟨(self_224.full) ++ [(rest_225 / 2 ^ Int.toNat ((left_226 - 8)))], self_224.rest, self_224.bits⟩ : St_BitWriter)), ((PySem.Builtin.bitAnd (rest_225) (((1 * 2 ^ Int.toNat ((left_226 - 8))) - 1)))), ((left_226 - 8)), _, rfl, eG232, S248, h252, h247, hw⟩, Nat.lt_succ_self _⟩
      · have hw := cW_neg c239 hw
        have hw := cW_ok hw
        have hw := hK238 _ hw
        have hw := cW_aftgo (hK223 (.go _) hw)
        have hw : cW (F_BitWriter__add_r1  (self_224) (rest_225) (left_226)) _ EE := hw
        unfold F_BitWriter__add_r1 at hw
        refine ⟨_, rfl, _, rfl, _, _, _, _, rfl, h229, T.cl_BitWriter, T.n_BitWriter__rest, (by show 3 < 1000; decide), ?_⟩
        generalize g256 : upd H227 p_self _ = H257
        obtain ⟨x258, h259⟩ := gen_mut g256
        have h260 : H257 p_self = some (.ins AD.c_BitWriter dx_self [("_full", V.ref l_self_full), ("_rest", V.int (rest_225)), ("_rest_bits", V.int (self_224.bits))]) := h259
        have S261 := S228.mut1 x258 (.head _) h260
        refine ⟨_, rfl, _, rfl, _, _, _, _, rfl, h260, T.cl_BitWriter, T.n_BitWriter__rest_bits, (by show 3 < 1000; decide), ?_⟩
        generalize g262 : upd H257 p_self _ = H263
        obtain ⟨x264, h265⟩ := gen_mut g262
        have h266 : H263 p_self = some (.ins AD.c_BitWriter dx_self [("_full", V.ref l_self_full), ("_rest", V.int (rest_225)), ("_rest_bits", V.int (left_226))]) := h265
        have S267 := S261.mut1 x264 (.head _) h266
        have h268 := (x264 _ _ (x258 _ _ h230 (ne_of h230 h229 (fun z => nomatch z))) (ne_of h230 h229 (fun z => nomatch z)))
        have hw := cW_ok hw
        exact hK0 _ hw _ S267.base h266 h268

abbrev N_BitWriter_put : List Str := ["self", "value", "count"]
theorem sc_BitWriter_put : FnScope N_BitWriter_put ["self", "value", "count"] (defScope s_BitWriter_put) := ⟨rfl, rfl, rfl, by decide +kernel, rfl, by decide +kernel, by decide +kernel⟩
theorem ok_BitWriter_put (D : MethX K AD.c_BitWriter "BitWriter.put" "put" s_BitWriter_put ["self", "value", "count"] pats_BitWriter_put) (T : Txt w K mg AD) (c_BitWriter__add : MetX P w K mg base 1 AD.c_BitWriter "_add" (sp_BitWriter__add K AD) pats_BitWriter__add) : MetX P w K mg base 2 AD.c_BitWriter "put" (sp_BitWriter_put K AD) pats_BitWriter_put := by
  refine D.ok T.cl_BitWriter sc_BitWriter_put (fun vs H Q E h => ?_) (fun f cdv A_ outer s H vs Q E hr h => ?_)
  · obtain ⟨G, p_self, l_self_full, dx_self, self', value', count', rfl, _⟩ := h
    rfl
  · obtain ⟨G, p_self, l_self_full, dx_self, self', value', count', rfl, sG, gM, h_p_self, h_l_self_full, hw⟩ := h
    refine ⟨_, (pss_cons (ps_if (pt_not (pt_chain op_le op_le pe_int (pv 2) (C8.pe_gc rfl T.g_MOST_BITS))) (pss_one (ps_raise rfl (takes_of rfl rfl rfl rfl) (pmk_own PySem.F.excBase_ValueError T.xx_OutOfRange T.xg_OutOfRange T.xk_OutOfRange (raises_own T.xb_OutOfRange T.xt_OutOfRange) rfl))) pss_nil)
      (pss_cons (ps_if (pt_not (pt_chain op_le op_lt pe_int (pv 1) (pe_op op_shlW pe_int (pv 2)))) (pss_one (ps_raise rfl (takes_of rfl rfl rfl rfl) (pmk_own PySem.F.excBase_ValueError T.xx_OutOfRange T.xg_OutOfRange T.xk_OutOfRange (raises_own T.xb_OutOfRange T.xt_OutOfRange) rfl))) pss_nil)
      (pss_one (ps_expr (vx_methX c_BitWriter__add pat_BitWriter__add_0 (.head _) hr (by decide) (takes_of rfl rfl rfl rfl) (pv 0) (pa_cons (pv 1) (pa_cons (pv 2) pa_nil)) pk_nil))))), ?_⟩
    obtain ⟨KK, EE, hK0, hE, hw⟩ := cW_gen hw
    have S0 := Sep.startM (M := [p_self, l_self_full]) sG (all_cons (some_ne h_p_self) (all_cons (some_ne h_l_self_full) all_nil)) gM
    unfold F_BitWriter_put at hw
    refine ⟨_, rfl, _, _, rfl, rfl, _, rfl, ?_⟩
    refine iteD (fun c269 => ?_) (fun c269 => ?_)
    · have hw := cW_pos c269 hw
      refine ⟨_, _, rfl, rfl, _, rfl, ?_⟩
      refine iteN (fun c270 => ?_) (fun c270 => ?_)
      · have hw := cW_neg c270 hw
        exact hE 1 (cW_er hw) _ (Same.refl _)
      · have hw := cW_pos c270 hw
        refine ⟨_, rfl, _, _, rfl, rfl, _, rfl, ?_⟩
        refine iteD (fun c271 => ?_) (fun c271 => ?_)
        · have hw := cW_pos c271 hw
          obtain ⟨g272, hw⟩ := cW_grd hw
          refine ⟨_, rfl, _, _, rfl, rfl, (shl_side g272.1 g272.2.1 g272.2.2.1 g272.2.2.2), _, _, rfl, rfl, _, rfl, ?_⟩
          refine iteN (fun c273 => ?_) (fun c273 => ?_)
          · have hw := cW_neg c273 hw
            exact hE 1 (cW_er hw) _ (Same.refl _)
          · have hw := cW_pos c273 hw
            refine ⟨_, rfl, _, _, _, rfl, h_p_self, rfl, _, rfl, _, rfl, rfl, rfl, G, _, _, _, self', _, _, rfl, S0.sG, (S0.gno (all_cons (.head _) (all_cons (.tail _ (.head _)) all_nil))), h_p_self, h_l_self_full, cW_call hw (fun v274 hw H275 x276 h278 h279  => ?_) (fun e he H2 e2 => hE e he H2 (Same.trans (Same.refl _) e2))⟩
            have S277 := S0.mut x276 (all_cons (.head _) (all_cons (.tail _ (.head _)) all_nil)) (all_cons (some_ne h278) (all_cons (some_ne h279) all_nil))
            have hw := cW_ok hw
            exact hK0 _ hw _ S277.base h278 h279
        · have hw := cW_neg c271 hw
          refine ⟨_, rfl, ?_⟩
          refine iteT ?_
          exact hE 1 (cW_er hw) _ (Same.refl _)
    · have hw := cW_neg c269 hw
      refine ⟨_, rfl, ?_⟩
      refine iteT ?_
      exact hE 1 (cW_er hw) _ (Same.refl _)

abbrev N_BitWriter_octets : List Str := ["self", "free"]
theorem sc_BitWriter_octets : FnScope N_BitWriter_octets ["self"] (defScope s_BitWriter_octets) := ⟨rfl, rfl, rfl, by decide +kernel, rfl, by decide +kernel, by decide +kernel⟩
theorem ok_BitWriter_octets (D : MethX K AD.c_BitWriter "BitWriter.octets" "octets" s_BitWriter_octets ["self"] pats_BitWriter_octets) (T : Txt w K mg AD)  : MetX P w K mg base 1 AD.c_BitWriter "octets" (sp_BitWriter_octets K AD) pats_BitWriter_octets := by
  refine D.ok T.cl_BitWriter sc_BitWriter_octets (fun vs H Q E h => ?_) (fun f cdv A_ outer s H vs Q E hr h => ?_)
  · obtain ⟨G, p_self, l_self_full, dx_self, self', rfl, _⟩ := h
    rfl
  · obtain ⟨G, p_self, l_self_full, dx_self, self', rfl, sG, h_p_self, h_l_self_full, hw⟩ := h
    refine ⟨_, (pss_cons (ps_set (i := 1) sc_BitWriter_octets.nd rfl (Or.inl rfl) (pe_op op_sub pe_int (fldK (K := K) (pv 0))))
      (pss_one (ps_ret (pe_op op_cat (fldK (K := K) (pv 0)) (pe_lst (pa_cons (pe_op op_shlW (pe_op op_add (pe_op op_mul pe_int (fldK (K := K) (pv 0))) pe_int) (pv 1)) pa_nil)))))), ?_⟩
    obtain ⟨KK, EE, hK0, hE, hw⟩ := cW_gen hw
    have S0 := Sep.startG sG
    unfold F_BitWriter_octets at hw
    refine ⟨_, rfl, _, _, _, _, _, rfl, (S0.bM _ _ h_p_self), T.cl_BitWriter, T.n_BitWriter__rest_bits, rfl, _, _, rfl, rfl, ?_⟩
    have hw := cW_bnd hw
    obtain ⟨g285, hw⟩ := cW_grd hw
    refine ⟨_, rfl, _, _, _, _, _, rfl, (S0.bM _ _ h_p_self), T.cl_BitWriter, T.n_BitWriter__full, rfl, _, rfl, _, _, _, _, _, rfl, (S0.bM _ _ h_p_self), T.cl_BitWriter, T.n_BitWriter__rest, rfl, _, _, rfl, rfl, (.inl ⟨by decide, by decide⟩), _, _, rfl, rfl, _, rfl, _, _, rfl, rfl, (shl_side g285.1 g285.2.1 g285.2.2.1 g285.2.2.2), (by show 1 ≤ sizeLine; decide), fun p286 n287 => ?_⟩
    generalize g288 : upd H p286 _ = H289
    obtain ⟨e290, h291⟩ := gen_new n287 g288
    have h292 : H289 p286 = some (.lst (([(((2 * self'.rest) + 1) * 2 ^ Int.toNat ((7 - self'.bits)))] : (List Int)).map V.int)) := h291
    have fr293 := S0.free n287
    have S294 := S0.new n287 e290 h292 fr293
    obtain ⟨g295, hw⟩ := cW_grd hw
    refine ⟨_, _, _, _, rfl, rfl, (S294.bM _ _ h_l_self_full), h292, (cat_lenM g295), fun p296 n297 => ?_⟩
    generalize g298 : upd H289 p296 _ = H299
    obtain ⟨e300, h301⟩ := gen_new n297 g298
    have h302 : H299 p296 = some (.lst (((self'.full) ++ ([(((2 * self'.rest) + 1) * 2 ^ Int.toNat ((7 - self'.bits)))]) : (List Int)).map V.int)) := cat_map h301
    have fr303 := S294.free n297
    have S304 := S294.new n297 e300 h302 fr303
    have hw := cW_ok hw
    exact hK0 _ hw _ _ fr303 S304.b0 h302

abbrev N_BitWriter_put_ue : List Str := ["self", "value", "digits"]
theorem sc_BitWriter_put_ue : FnScope N_BitWriter_put_ue ["self", "value"] (defScope s_BitWriter_put_ue) := ⟨rfl, rfl, rfl, by decide +kernel, rfl, by decide +kernel, by decide +kernel⟩
theorem ok_BitWriter_put_ue (D : MethX K AD.c_BitWriter "BitWriter.put_ue" "put_ue" s_BitWriter_put_ue ["self", "value"] pats_BitWriter_put_ue) (T : Txt w K mg AD) (c_BitWriter__add : MetX P w K mg base 1 AD.c_BitWriter "_add" (sp_BitWriter__add K AD) pats_BitWriter__add) : MetX P w K mg base 2 AD.c_BitWriter "put_ue" (sp_BitWriter_put_ue K AD) pats_BitWriter_put_ue := by
  refine D.ok T.cl_BitWriter sc_BitWriter_put_ue (fun vs H Q E h => ?_) (fun f cdv A_ outer s H vs Q E hr h => ?_)
  · obtain ⟨G, p_self, l_self_full, dx_self, self', value', rfl, _⟩ := h
    rfl
  · obtain ⟨G, p_self, l_self_full, dx_self, self', value', rfl, sG, gM, h_p_self, h_l_self_full, hw⟩ := h
    refine ⟨_, (pss_cons (ps_if (pt_not (pt_chain op_le op_le pe_int (pv 1) (pe_op op_pow pe_int pe_int))) (pss_one (ps_raise rfl (takes_of rfl rfl rfl rfl) (pmk_own PySem.F.excBase_ValueError T.xx_OutOfRange T.xg_OutOfRange T.xk_OutOfRange (raises_own T.xb_OutOfRange T.xt_OutOfRange) rfl))) pss_nil)
      (pss_cons (ps_set (i := 2) sc_BitWriter_put_ue.nd rfl (Or.inl rfl) (pe_bits (pe_op op_add (pv 1) pe_int)))
      (pss_one (ps_expr (vx_methX c_BitWriter__add pat_BitWriter__add_0 (.head _) hr (by decide) (takes_of rfl rfl rfl rfl) (pv 0) (pa_cons (pe_op op_add (pv 1) pe_int) (pa_cons (pe_op op_sub (pe_op op_mul pe_int (pv 2)) pe_int) pa_nil)) pk_nil))))), ?_⟩
    obtain ⟨KK, EE, hK0, hE, hw⟩ := cW_gen hw
    have S0 := Sep.startM (M := [p_self, l_self_full]) sG (all_cons (some_ne h_p_self) (all_cons (some_ne h_l_self_full) all_nil)) gM
    unfold F_BitWriter_put_ue at hw
    refine ⟨_, rfl, _, _, rfl, rfl, _, rfl, ?_⟩
    refine iteD (fun c305 => ?_) (fun c305 => ?_)
    · have hw := cW_pos c305 hw
      refine ⟨_, _, rfl, rfl, ⟨by decide, by decide, by decide⟩, _, _, rfl, rfl, _, rfl, ?_⟩
      refine iteN (fun c306 => ?_) (fun c306 => ?_)
      · have hw := cW_neg c306 hw
        exact hE 1 (cW_er hw) _ (Same.refl _)
      · have hw := cW_pos c306 hw
        refine ⟨_, rfl, _, _, rfl, rfl, _, rfl, ?_⟩
        have hw := cW_bnd hw
        refine ⟨_, rfl, _, _, _, rfl, h_p_self, rfl, _, rfl, _, _, rfl, rfl, _, rfl, _, _, rfl, rfl, (.inl ⟨by decide, by decide⟩), _, _, rfl, rfl, rfl, rfl, G, _, _, _, self', _, _, rfl, S0.sG, (S0.gno (all_cons (.head _) (all_cons (.tail _ (.head _)) all_nil))), h_p_self, h_l_self_full, cW_call hw (fun v308 hw H309 x310 h312 h313  => ?_) (fun e he H2 e2 => hE e he H2 (Same.trans (Same.refl _) e2))⟩
        have S311 := S0.mut x310 (all_cons (.head _) (all_cons (.tail _ (.head _)) all_nil)) (all_cons (some_ne h312) (all_cons (some_ne h313) all_nil))
        have hw := cW_ok hw
        exact hK0 _ hw _ S311.base h312 h313
    · have hw := cW_neg c305 hw
      refine ⟨_, rfl, ?_⟩
      refine iteT ?_
      exact hE 1 (cW_er hw) _ (Same.refl _)

abbrev N_BitWriter_put_se : List Str := ["self", "value"]
theorem sc_BitWriter_put_se : FnScope N_BitWriter_put_se ["self", "value"] (defScope s_BitWriter_put_se) := ⟨rfl, rfl, rfl, by decide +kernel, rfl, by decide +kernel, by decide +kernel⟩
theorem ok_BitWriter_put_se (D : MethX K AD.c_BitWriter "BitWriter.put_se" "put_se" s_BitWriter_put_se ["self", "value"] pats_BitWriter_put_se) (T : Txt w K mg AD) (c_BitWriter_put_ue : MetX P w K mg base 2 AD.c_BitWriter "put_ue" (sp_BitWriter_put_ue K AD) pats_BitWriter_put_ue) : MetX P w K mg base 3 AD.c_BitWriter "put_se" (sp_BitWriter_put_se K AD) pats_BitWriter_put_se := by
  refine D.ok T.cl_BitWriter sc_BitWriter_put_se (fun vs H Q E h => ?_) (fun f cdv A_ outer s H vs Q E hr h => ?_)
  · obtain ⟨G, p_self, l_self_full, dx_self, self', value', rfl, _⟩ := h
    rfl
  · obtain ⟨G, p_self, l_self_full, dx_self, self', value', rfl, sG, gM, h_p_self, h_l_self_full, hw⟩ := h
    refine ⟨_, (pss_one (ps_expr (vx_methX c_BitWriter_put_ue pat_BitWriter_put_ue_0 (.head _) hr (by decide) (takes_of rfl rfl rfl rfl) (pv 0) (pa_cons (pe_ifExp (pt_cmp (pc_gt (pv 1) pe_int)) (pe_op op_sub (pe_op op_mul pe_int (pv 1)) pe_int) (pe_op op_mul (pe_un un_neg pe_int) (pv 1))) pa_nil) pk_nil))), ?_⟩
    obtain ⟨KK, EE, hK0, hE, hw⟩ := cW_gen hw
    have S0 := Sep.startM (M := [p_self, l_self_full]) sG (all_cons (some_ne h_p_self) (all_cons (some_ne h_l_self_full) all_nil)) gM
    unfold F_BitWriter_put_se at hw
    refine ⟨_, rfl, _, _, _, rfl, h_p_self, rfl, ?_⟩
    refine vv_if (p := 0 < value') (ta := (tOp (rI0 fun i j => V.int (i - j)) (tOp (rI CMul fun i j => V.int (i * j)) (tC (V.int 2)) (tVar 1)) (tC (V.int 1)))) (tb := (tOp (rI CMul fun i j => V.int (i * j)) (tUn (rU fun i => V.int (-i)) (tC (V.int 2))) (tVar 1))) (t := tB (tGt (tVar 1) (tC (V.int 0)))) (a := ((2 * value') - 1)) (b := ((-2) * value')) ?hx318 ?hy319 ?hz320 _ ?_
    case hx318 => exact vt_cmp (vv_cmp (val_var rfl) val_c (fun Q q => ⟨_, _, rfl, rfl, q⟩))
    case hy319 => exact (val_op (val_op val_c (val_var rfl) (fun Q q => ⟨_, _, rfl, rfl, (.inl ⟨by decide, by decide⟩), q⟩)) val_c (fun Q q => ⟨_, _, rfl, rfl, q⟩))
    case hz320 => exact (val_op (vv_un val_c (fun Q q => ⟨_, rfl, q⟩)) (val_var rfl) (fun Q q => ⟨_, _, rfl, rfl, (.inl ⟨by decide, by decide⟩), q⟩))
    refine ⟨rfl, rfl, G, _, _, _, self', _, rfl, S0.sG, (S0.gno (all_cons (.head _) (all_cons (.tail _ (.head _)) all_nil))), h_p_self, h_l_self_full, cW_call hw (fun v321 hw H322 x323 h325 h326  => ?_) (fun e he H2 e2 => hE e he H2 (Same.trans (Same.refl _) e2))⟩
    have S324 := S0.mut x323 (all_cons (.head _) (all_cons (.tail _ (.head _)) all_nil)) (all_cons (some_ne h325) (all_cons (some_ne h326) all_nil))
    have hw := cW_ok hw
    exact hK0 _ hw _ S324.base h325 h326

abbrev N__law_put_refused : List Str := ["writer", "kind", "value", "count", "before", "refused", "e"]
theorem sc__law_put_refused : FnScope N__law_put_refused ["writer", "kind", "value", "count"] (defScope s__law_put_refused) := ⟨rfl, rfl, rfl, by decide +kernel, rfl, by decide +kernel, by decide +kernel⟩
theorem ok__law_put_refused (D : DefX K mg "_law_put_refused" s__law_put_refused ["writer", "kind", "value", "count"] pats__law_put_refused) (T : Txt w K mg AD) (c_BitWriter_octets : MetX P w K mg base 1 AD.c_BitWriter "octets" (sp_BitWriter_octets K AD) pats_BitWriter_octets) (c_BitWriter_put : MetX P w K mg base 2 AD.c_BitWriter "put" (sp_BitWriter_put K AD) pats_BitWriter_put) (c_BitWriter_put_ue : MetX P w K mg base 2 AD.c_BitWriter "put_ue" (sp_BitWriter_put_ue K AD) pats_BitWriter_put_ue) (c_BitWriter_put_se : MetX P w K mg base 3 AD.c_BitWriter "put_se" (sp_BitWriter_put_se K AD) pats_BitWriter_put_se) : CalX P w K mg base 4 "_law_put_refused" (sp__law_put_refused K AD) pats__law_put_refused := by
  refine D.ok sc__law_put_refused (fun vs H Q E h => ?_) (fun f cdv A_ outer s H vs Q E hr h => ?_)
  · obtain ⟨G, p_writer, l_writer_full, dx_writer, writer', kind', value', count', rfl, _⟩ := h
    rfl
  · obtain ⟨G, p_writer, l_writer_full, dx_writer, writer', kind', value', count', rfl, sG, gM, h_p_writer, h_l_writer_full, hw⟩ := h
    refine ⟨_, (pss_cons (ps_set (i := 4) sc__law_put_refused.nd rfl (Or.inl rfl) (vx_methX0 c_BitWriter_octets pat_BitWriter_octets_0 (.head _) hr (by decide) (takes_of rfl rfl rfl rfl) (pv 0)))
      (pss_cons (ps_set (i := 5) sc__law_put_refused.nd rfl (Or.inl rfl) pe_bl)
      (pss_cons (ps_try_as (i := 6) rfl rfl sc__law_put_refused.nd rfl rfl ⟨rfl, by decide, .inl T.xg_OutOfRange⟩ (takes_of rfl rfl rfl rfl) (fun W pn xe tk pse => (pss_cons (ps_if (pt_cmp (pc_eqI (pv 1) pe_int)) (pss_one (ps_expr (vx_methX c_BitWriter_put pat_BitWriter_put_0 (.head _) hr (by decide) tk (pv 0) (pa_cons (pv 2) (pa_cons (pv 3) pa_nil)) pk_nil))) pss_nil)
      (pss_cons (ps_if (pt_cmp (pc_eqI (pv 1) pe_int)) (pss_one (ps_expr (vx_methX c_BitWriter_put_ue pat_BitWriter_put_ue_0 (.head _) hr (by decide) tk (pv 0) (pa_cons (pv 2) pa_nil) pk_nil))) pss_nil)
      (pss_one (ps_if (pt_cmp (pc_eqI (pv 1) pe_int)) (pss_one (ps_expr (vx_methX c_BitWriter_put_se pat_BitWriter_put_se_0 (.head _) hr (by decide) tk (pv 0) (pa_cons (pv 2) pa_nil) pk_nil))) pss_nil))))) (fun a oe cls d pn hz hf => (pss_one (ps_set (i := 5) sc__law_put_refused.nd rfl (Or.inl rfl) (pe_and (pe_callB (call_isX (K := K) hz hf) (by rfl) T.b_isinstance (by decide +kernel) (pa_cons (pv 6) (pa_cons (C8.pe_gc (v := V.ref AD.x_CodecError) rfl ⟨_, T.xg_CodecError, rfl⟩) pa_nil))) (pe_one (pe_not (pe_callB (call_isXT (K := K) hz hf) (by rfl) T.b_isinstance (by decide +kernel) (pa_cons (pv 6) (pa_cons (pe_tup (pa_cons (C8.pe_gc (v := V.ref AD.x_OutOfBits) rfl ⟨_, T.xg_OutOfBits, rfl⟩) (pa_cons (C8.pe_gc (v := V.ref AD.x_BadOctets) rfl ⟨_, T.xg_BadOctets, rfl⟩) pa_nil))) pa_nil))))))))))
      (pss_one (ps_ret (pe_and (pv 5) (pe_one (pe_cmpR (op_eqT (encOk_L encOk_int) hr.units) (vx_methX0 c_BitWriter_octets pat_BitWriter_octets_0 (.head _) hr (by decide) (takes_of rfl rfl rfl rfl) (pv 0)) (pv 4) (nomark _))))))))), ?_⟩
    obtain ⟨KK, EE, hK0, hE, hw⟩ := cW_gen hw
    have S0 := Sep.startM (M := [p_writer, l_writer_full]) sG (all_cons (some_ne h_p_writer) (all_cons (some_ne h_l_writer_full) all_nil)) gM
    unfold F__law_put_refused at hw
    refine ⟨_, rfl, _, _, _, rfl, h_p_writer, rfl, rfl, rfl, G, _, _, _, writer', rfl, S0.sG, (hide_nil h_p_writer), (hide_nil h_l_writer_full), cW_call hw (fun v331 hw p334 H332 n335 e333 h336 => ?_) (fun e he H2 e2 => hE e he H2 (Same.trans (Same.refl _) e2))⟩
    have h337 : H332 p334 = some (.lst ((v331 : (List Int)).map V.int)) := h336
    have fr338 := S0.free n335
    have S339 := S0.new n335 e333 h337 fr338
    refine ⟨_, rfl, _, _, rfl, rfl, _, rfl, ?_⟩
    refine iteD (fun c340 => ?_) (fun c340 => ?_)
    · have hw := cW_pos c340 hw
      have h341 := (e333 _ _ h_p_writer)
      have h342 := (e333 _ _ h_l_writer_full)
      refine ⟨_, rfl, _, _, _, rfl, h341, rfl, _, rfl, _, rfl, rfl, rfl, G, _, _, _, writer', _, _, rfl, S339.sG, (S339.gno (all_cons (.tail _ (.head _)) (all_cons (.tail _ (.tail _ (.head _))) all_nil))), h341, h342, cW_try hw (fun v343 hw H344 x345 h347 h348  => ?_) ?_⟩
      · have S346 := S339.mut x345 (all_cons (.tail _ (.head _)) (all_cons (.tail _ (.tail _ (.head _))) all_nil)) (all_cons (some_ne h347) (all_cons (some_ne h348) all_nil))
        refine ⟨_, rfl, _, _, rfl, rfl, _, rfl, ?_⟩
        refine iteD (fun c353 => ?_) (fun c353 => ?_)
        · exact absurd (c353.symm.trans c340) (by decide)
        · have hw := cW_neg c353 hw
          refine ⟨_, rfl, _, _, rfl, rfl, _, rfl, ?_⟩
          refine iteD (fun c354 => ?_) (fun c354 => ?_)
          · exact absurd (c354.symm.trans c340) (by decide)
          · have hw := cW_neg c354 hw
            refine ⟨_, rfl, _, rfl, ?_⟩
            refine iteF ?_
            have hw := cW_ok hw
            exact hK0 _ hw _ S346.base h347 h348
      · intro e hm hw H355 e356
        have S357 := S339.same e356
        obtain rfl := mem_one hm
        refine ⟨true, T.xm_OutOfRange_OutOfRange, fun _ a358 na359 => ?_, fun q => nomatch q⟩
        refine ⟨_, rfl, _, _, _, rfl, rfl, T.xc_OutOfRange, rfl, T.xo_OutOfRange_CodecError, _, rfl, ?_⟩
        refine iteT ?_
        refine ⟨_, rfl, (by show 2 ≤ sizeLine; decide), fun p360 n361 => ?_⟩
        generalize g362 : upd H355 p360 _ = H363
        obtain ⟨e364, h365⟩ := gen_new n361 g362
        have h366 : H363 p360 = some (.tup [V.ref AD.x_OutOfBits, V.ref AD.x_BadOctets]) := h365
        have fr367 := S357.free n361
        obtain ⟨G369, eG370, hg371, S368⟩ := S357.grow n361 e364 h366 fr367
        refine ⟨_, _, _, _, _, rfl, rfl, T.xc_OutOfRange, rfl, (S368.sG _ _ hg371), (.cons (.own _) (.cons (.own _) .nil)), (kitAny_cons T.xn_OutOfRange_OutOfBits (fun _ => (kitAny_cons T.xn_OutOfRange_BadOctets (fun _ => kitAny_nil) (fun z => nomatch z))) (fun z => nomatch z)), _, rfl, ?_⟩
        refine ⟨_, rfl, _, rfl, ?_⟩
        refine iteT ?_
        have h372 := (e364 _ _ (e356 _ _ h341))
        have h373 := (e364 _ _ (e356 _ _ h342))
        refine ⟨_, rfl, _, _, _, rfl, h372, rfl, rfl, rfl, G369, _, _, _, writer', rfl, S368.sG, (hide_nil h372), (hide_nil h373), cW_call hw (fun v374 hw p377 H375 n378 e376 h379 => ?_) (fun e he H2 e2 => hE e he H2 (Same.trans (Same.trans (Same.trans e333 e356) e364) e2))⟩
        have h380 : H375 p377 = some (.lst ((v374 : (List Int)).map V.int)) := h379
        have fr381 := S368.free n378
        have S382 := S368.new n378 e376 h380 fr381
        have h383 := (e376 _ _ (e364 _ _ (e356 _ _ h337)))
        refine ⟨_, rfl, _, _, (rp_mk_ints h380), (rp_mk_ints h383), ?_⟩
        have h384 := (e376 _ _ h372)
        have h385 := (e376 _ _ h373)
        have hw := cW_ok hw
        exact hK0 _ hw _ S382.base h384 h385
    · have hw := cW_neg c340 hw
      refine ⟨_, rfl, _, _, rfl, rfl, _, rfl, ?_⟩
      refine iteD (fun c386 => ?_) (fun c386 => ?_)
      · have hw := cW_pos c386 hw
        have h387 := (e333 _ _ h_p_writer)
        have h388 := (e333 _ _ h_l_writer_full)
        refine ⟨_, rfl, _, _, _, rfl, h387, rfl, _, rfl, rfl, rfl, G, _, _, _, writer', _, rfl, S339.sG, (S339.gno (all_cons (.tail _ (.head _)) (all_cons (.tail _ (.tail _ (.head _))) all_nil))), h387, h388, cW_try hw (fun v389 hw H390 x391 h393 h394  => ?_) ?_⟩
        · have S392 := S339.mut x391 (all_cons (.tail _ (.head _)) (all_cons (.tail _ (.tail _ (.head _))) all_nil)) (all_cons (some_ne h393) (all_cons (some_ne h394) all_nil))
          refine ⟨_, rfl, _, _, rfl, rfl, _, rfl, ?_⟩
          refine iteD (fun c399 => ?_) (fun c399 => ?_)
          · exact absurd (c399.symm.trans c386) (by decide)
          · have hw := cW_neg c399 hw
            refine ⟨_, rfl, _, rfl, ?_⟩
            refine iteF ?_
            have hw := cW_ok hw
            exact hK0 _ hw _ S392.base h393 h394
        · intro e hm hw H400 e401
          have S402 := S339.same e401
          obtain rfl := mem_one hm
          refine ⟨true, T.xm_OutOfRange_OutOfRange, fun _ a403 na404 => ?_, fun q => nomatch q⟩
          refine ⟨_, rfl, _, _, _, rfl, rfl, T.xc_OutOfRange, rfl, T.xo_OutOfRange_CodecError, _, rfl, ?_⟩
          refine iteT ?_
          refine ⟨_, rfl, (by show 2 ≤ sizeLine; decide), fun p405 n406 => ?_⟩
          generalize g407 : upd H400 p405 _ = H408
          obtain ⟨e409, h410⟩ := gen_new n406 g407
          have h411 : H408 p405 = some (.tup [V.ref AD.x_OutOfBits, V.ref AD.x_BadOctets]) := h410
          have fr412 := S402.free n406
          obtain ⟨G414, eG415, hg416, S413⟩ := S402.grow n406 e409 h411 fr412
          refine ⟨_, _, _, _, _, rfl, rfl, T.xc_OutOfRange, rfl, (S413.sG _ _ hg416), (.cons (.own _) (.cons (.own _) .nil)), (kitAny_cons T.xn_OutOfRange_OutOfBits (fun _ => (kitAny_cons T.xn_OutOfRange_BadOctets (fun _ => kitAny_nil) (fun z => nomatch z))) (fun z => nomatch z)), _, rfl, ?_⟩
          refine ⟨_, rfl, _, rfl, ?_⟩
          refine iteT ?_
          have h417 := (e409 _ _ (e401 _ _ h387))
          have h418 := (e409 _ _ (e401 _ _ h388))
          refine ⟨_, rfl, _, _, _, rfl, h417, rfl, rfl, rfl, G414, _, _, _, writer', rfl, S413.sG, (hide_nil h417), (hide_nil h418), cW_call hw (fun v419 hw p422 H420 n423 e421 h424 => ?_) (fun e he H2 e2 => hE e he H2 (Same.trans (Same.trans (Same.trans e333 e401) e409) e2))⟩
          have h425 : H420 p422 = some (.lst ((v419 : (List Int)).map V.int)) := h424
          have fr426 := S413.free n423
          have S427 := S413.new n423 e421 h425 fr426
          have h428 := (e421 _ _ (e409 _ _ (e401 _ _ h337)))
          refine ⟨_, rfl, _, _, (rp_mk_ints h425), (rp_mk_ints h428), ?_⟩
          have h429 := (e421 _ _ h417)
          have h430 := (e421 _ _ h418)
          have hw := cW_ok hw
          exact hK0 _ hw _ S427.base h429 h430
      · have hw := cW_neg c386 hw
        refine ⟨_, rfl, _, _, rfl, rfl, _, rfl, ?_⟩
        refine iteD (fun c431 => ?_) (fun c431 => ?_)
        · have hw := cW_pos c431 hw
          have h432 := (e333 _ _ h_p_writer)
          have h433 := (e333 _ _ h_l_writer_full)
          refine ⟨_, rfl, _, _, _, rfl, h432, rfl, _, rfl, rfl, rfl, G, _, _, _, writer', _, rfl, S339.sG, (S339.gno (all_cons (.tail _ (.head _)) (all_cons (.tail _ (.tail _ (.head _))) all_nil))), h432, h433, cW_try hw (fun v434 hw H435 x436 h438 h439  => ?_) ?_⟩
          · have S437 := S339.mut x436 (all_cons (.tail _ (.head _)) (all_cons (.tail _ (.tail _ (.head _))) all_nil)) (all_cons (some_ne h438) (all_cons (some_ne h439) all_nil))
            refine ⟨_, rfl, _, rfl, ?_⟩
            refine iteF ?_
            have hw := cW_ok hw
            exact hK0 _ hw _ S437.base h438 h439
          · intro e hm hw H444 e445
            have S446 := S339.same e445
            obtain rfl := mem_one hm
            refine ⟨true, T.xm_OutOfRange_OutOfRange, fun _ a447 na448 => ?_, fun q => nomatch q⟩
            refine ⟨_, rfl, _, _, _, rfl, rfl, T.xc_OutOfRange, rfl, T.xo_OutOfRange_CodecError, _, rfl, ?_⟩
            refine iteT ?_
            refine ⟨_, rfl, (by show 2 ≤ sizeLine; decide), fun p449 n450 => ?_⟩
            generalize g451 : upd H444 p449 _ = H452
            obtain ⟨e453, h454⟩ := gen_new n450 g451
            have h455 : H452 p449 = some (.tup [V.ref AD.x_OutOfBits, V.ref AD.x_BadOctets]) := h454
            have fr456 := S446.free n450
            obtain ⟨G458, eG459, hg460, S457⟩ := S446.grow n450 e453 h455 fr456
            refine ⟨_, _, _, _, _, rfl, rfl, T.xc_OutOfRange, rfl, (S457.sG _ _ hg460), (.cons (.own _) (.cons (.own _) .nil)), (kitAny_cons T.xn_OutOfRange_OutOfBits (fun _ => (kitAny_cons T.xn_OutOfRange_BadOctets (fun _ => kitAny_nil) (fun z => nomatch z))) (fun z => nomatch z)), _, rfl, ?_⟩
            refine ⟨_, rfl, _, rfl, ?_⟩
            refine iteT ?_
            have h461 := (e453 _ _ (e445 _ _ h432))
            have h462 := (e453 _ _ (e445 _ _ h433))
            refine ⟨_, rfl, _, _, _, rfl, h461, rfl, rfl, rfl, G458, _, _, _, writer', rfl, S457.sG, (hide_nil h461), (hide_nil h462), cW_call hw (fun v463 hw p466 H464 n467 e465 h468 => ?_) (fun e he H2 e2 => hE e he H2 (Same.trans (Same.trans (Same.trans e333 e445) e453) e2))⟩
            have h469 : H464 p466 = some (.lst ((v463 : (List Int)).map V.int)) := h468
            have fr470 := S457.free n467
            have S471 := S457.new n467 e465 h469 fr470
            have h472 := (e465 _ _ (e453 _ _ (e445 _ _ h337)))
            refine ⟨_, rfl, _, _, (rp_mk_ints h469), (rp_mk_ints h472), ?_⟩
            have h473 := (e465 _ _ h461)
            have h474 := (e465 _ _ h462)
            have hw := cW_ok hw
            exact hK0 _ hw _ S471.base h473 h474
        · have hw := cW_neg c431 hw
          refine ⟨_, rfl, _, rfl, ?_⟩
          refine iteF ?_
          have h475 := (e333 _ _ h_p_writer)
          have h476 := (e333 _ _ h_l_writer_full)
          have hw := cW_ok hw
          exact hK0 _ hw _ S339.base h475 h476

abbrev N__law_packed : List Str := ["bits", "k", "j"]
theorem sc__law_packed : FnScope N__law_packed ["bits"] (defScope s__law_packed) := ⟨rfl, rfl, rfl, by decide +kernel, rfl, by decide +kernel, by decide +kernel⟩
theorem ok__law_packed (D : DefX K mg "_law_packed" s__law_packed ["bits"] pats__law_packed) (T : Txt w K mg AD)  : CalX P w K mg base 1 "_law_packed" (sp__law_packed K AD) pats__law_packed := by
  refine D.ok sc__law_packed (fun vs H Q E h => ?_) (fun f cdv A_ outer s H vs Q E hr h => ?_)
  · obtain ⟨G, a_bits, bits', rfl, _⟩ := h
    rfl
  · obtain ⟨G, a_bits, bits', rfl, sG, q_bits, hw⟩ := h
    refine ⟨_, (pss_cons (ps_set (i := 0) sc__law_packed.nd rfl (Or.inr rfl) (pe_op op_cat (pv 0) (pe_lst (pa_cons pe_int pa_nil))))
      (pss_cons (ps_set (i := 0) sc__law_packed.nd rfl (Or.inr rfl) (pe_op op_cat (pv 0) (pe_op op_rep (pe_lst (pa_cons pe_int pa_nil)) (pe_op op_mod (pe_op op_sub pe_int (pe_op op_mod (pe_callB (call_lenLiK (K := K)) (by rfl) T.b_len (by decide +kernel) (pa_cons (pv 0) pa_nil)) pe_int)) pe_int))))
      (pss_one (ps_ret (pe_lc (own := [("k", 1)]) (g := gName 1) (by rfl) sc__law_packed.nd (pi_range1 rfl T.b_range (pa_cons (pe_op op_fdivW (pe_callB (call_lenLiK (K := K)) (by rfl) T.b_len (by decide +kernel) (pa_cons (pv 0) pa_nil)) pe_int) pa_nil)) (blkOk_by (own := [("k", 1)]) (N := N__law_packed) (sc := defScope s__law_packed) (by decide +kernel)) (fun _ _ _ _ _ => (pg_name (i := 1) sc__law_packed.nd rfl (Or.inr rfl))) (fun _ _ _ _ _ => pts_nil) (fun _ _ _ _ _ => (pe_callB (cr_sumK (K := K) rfl) (by rfl) T.b_sum (by decide +kernel) (pa_cons (pe_lc (own := [("j", 2)]) (g := gName 2) (by rfl) sc__law_packed.nd (pi_range1 rfl T.b_range (pa_cons pe_int pa_nil)) (blk_relabel (blkOk_by (own := [("j", 2)]) (N := N__law_packed) (by decide +kernel))) (fun _ _ _ _ _ => (pg_name (i := 2) sc__law_packed.nd rfl (Or.inl rfl))) (fun _ _ _ _ _ => pts_nil) (fun _ _ _ _ _ => (pe_op op_shlW (pe_ix (ix_listK (K := K)) (pv 0) (pe_op op_add (pe_op op_mul pe_int (pv 1)) (pv 2)) (fun _ _ => rfl)) (pe_op op_sub pe_int (pv 2))))) pa_nil)))))))), ?_⟩
    obtain ⟨KK, EE, hK0, hE, hw⟩ := cW_gen hw
    have S0 := Sep.startG sG
    unfold F__law_packed at hw
    refine ⟨_, rfl, (by show 1 ≤ sizeLine; decide), fun p477 n478 => ?_⟩
    generalize g479 : upd H p477 _ = H480
    obtain ⟨e481, h482⟩ := gen_new n478 g479
    have h483 : H480 p477 = some (.lst (([1] : (List Int)).map V.int)) := h482
    have fr484 := S0.free n478
    have S485 := S0.new n478 e481 h483 fr484
    obtain ⟨g486, hw⟩ := cW_grd hw
    refine ⟨_, _, _, _, rfl, rfl, (S485.bM _ _ q_bits), h483, (cat_lenM g486), fun p487 n488 => ?_⟩
    generalize g489 : upd H480 p487 _ = H490
    obtain ⟨e491, h492⟩ := gen_new n488 g489
    have h493 : H490 p487 = some (.lst (((bits') ++ ([1]) : (List Int)).map V.int)) := cat_map h492
    have fr494 := S485.free n488
    have S495 := S485.new n488 e491 h493 fr494
    refine ⟨_, rfl, (by show 1 ≤ sizeLine; decide), fun p496 n497 => ?_⟩
    generalize g498 : upd H490 p496 _ = H499
    obtain ⟨e500, h501⟩ := gen_new n497 g498
    have h502 : H499 p496 = some (.lst (([0] : (List Int)).map V.int)) := h501
    have fr503 := S495.free n497
    have S504 := S495.new n497 e500 h502 fr503
    have h505 := (e500 _ _ h493)
    obtain ⟨g506, hw⟩ := cW_grd hw
    refine ⟨_, rfl, _, _, rfl, (SqL.of h505), _, _, rfl, rfl, (show (0 : Int) < 8 by decide), _, _, rfl, rfl, _, _, rfl, rfl, (show (0 : Int) < 8 by decide), _, _, _, rfl, rfl, h502, g506.1, g506.2.1, (rep_lenM g506.2.2), fun p507 n508 => ?_⟩
    generalize g509 : upd H499 p507 _ = H510
    obtain ⟨e511, h512⟩ := gen_new n508 g509
    have h513 : H510 p507 = some (.lst ((repL ([0]) (((8 - (((((bits') ++ ([1])) : (List Int)).length : Int) % 8)) % 8)) : (List Int)).map V.int)) := rep_map h512
    have fr514 := S504.free n508
    have S515 := S504.new n508 e511 h513 fr514
    obtain ⟨g516, hw⟩ := cW_grd hw
    have h517 := (e511 _ _ h505)
    refine ⟨_, _, _, _, rfl, rfl, h517, h513, (cat_lenM g516), fun p518 n519 => ?_⟩
    generalize g520 : upd H510 p518 _ = H521
    obtain ⟨e522, h523⟩ := gen_new n519 g520
    have h524 : H521 p518 = some (.lst ((((bits') ++ ([1])) ++ (repL ([0]) (((8 - (((((bits') ++ ([1])) : (List Int)).length : Int) % 8)) % 8))) : (List Int)).map V.int)) := cat_map h523
    have fr525 := S515.free n519
    have S526 := S515.new n519 e522 h524 fr525
    obtain ⟨g527, hw⟩ := cW_grd hw
    obtain ⟨K530, hK531, hw⟩ := cW_push hw
    refine ⟨_, rfl, _, _, rfl, (SqL.of h524), _, _, rfl, rfl, (divW_lit (by decide) (by decide)), _, rfl, g527.1, g527.2, fun D532 n533 => lc_range (lo := 0) (n := Int.toNat (((((((bits') ++ ([1])) ++ (repL ([0]) (((8 - (((((bits') ++ ([1])) : (List Int)).length : Int) % 8)) % 8)))) : (List Int)).length : Int) / 8))) (fun i1 H' => ∃ (G' : Hp) (acc535 : (List Int)), Same G G' ∧ Sep [] H G G' H' [D532, p518] ∧ H' p518 = some (.lst ((((bits') ++ ([1])) ++ (repL ([0]) (((8 - (((((bits') ++ ([1])) : (List Int)).length : Int) % 8)) % 8))) : (List Int)).map V.int)) ∧ H' D532 = some (.lst ((acc535 : (List Int)).map V.int)) ∧ Same H521 H' ∧ cW (mapA (List.drop i1 (rng (0) (Int.toNat (((((((bits') ++ ([1])) ++ (repL ([0]) (((8 - (((((bits') ++ ([1])) : (List Int)).length : Int) % 8)) % 8)))) : (List Int)).length : Int) / 8))))) acc535 (fun x => noEr (F__law_packed_c1 (((bits') ++ ([1])) ++ (repL ([0]) (((8 - (((((bits') ++ ([1])) : (List Int)).length : Int) % 8)) % 8)))) x))) K530 EE) ?_ ?_ ?_⟩
    · generalize g537 : upd H521 D532 _ = H538
      obtain ⟨e539, h540⟩ := gen_new n533 g537
      have fr541 := S526.free n533
      have S542 := S526.new n533 e539 h540 fr541
      have h543 := (e539 _ _ h524)
      exact ⟨_, [], Same.refl _, (S542.sub (all_cons (.head _) (all_cons (.tail _ (.head _)) all_nil))), h543, h540, e539, hw⟩
    · intro i1 H544 hi hw
      obtain ⟨G547, acc549, eG548, S545, h556, h546, eo555, hw⟩ := hw
      obtain ⟨z557, hw⟩ := cW_mapA (rng_get hi) hw
      generalize (0 + (i1 : Int)) = x558 at hw ⊢
      have hw := cW_noEr hw
      have hw : cW (F__law_packed_c1 (((bits') ++ ([1])) ++ (repL ([0]) (((8 - (((((bits') ++ ([1])) : (List Int)).length : Int) % 8)) % 8)))) (x558)) _ (fun _ => False) := hw
      unfold F__law_packed_c1 at hw
      refine ⟨rfl, ?_⟩
      refine tyes_go ?_
      obtain ⟨K563, hK564, hw⟩ := cW_push hw
      refine ⟨_, rfl, (by decide), (by decide), fun D565 n566 => lc_range (lo := 0) (n := Int.toNat (8)) (fun i2 H' => ∃ (G' : Hp) (acc568 : (List Int)), Same G547 G' ∧ Sep [] H G G' H' [D565, p518, D532] ∧ H' p518 = some (.lst ((((bits') ++ ([1])) ++ (repL ([0]) (((8 - (((((bits') ++ ([1])) : (List Int)).length : Int) % 8)) % 8))) : (List Int)).map V.int)) ∧ H' D532 = some (.lst ((acc549 : (List Int)).map V.int)) ∧ H' D565 = some (.lst ((acc568 : (List Int)).map V.int)) ∧ Same H544 H' ∧ cW (mapA (List.drop i2 (rng (0) (Int.toNat (8)))) acc568 (fun x => noEr (F__law_packed_c2 (((bits') ++ ([1])) ++ (repL ([0]) (((8 - (((((bits') ++ ([1])) : (List Int)).length : Int) % 8)) % 8)))) (x558) x))) K563 (fun _ => False)) ?_ ?_ ?_⟩
      · generalize g570 : upd H544 D565 _ = H571
        obtain ⟨e572, h573⟩ := gen_new n566 g570
        have fr574 := S545.free n566
        have S575 := S545.new n566 e572 h573 fr574
        have h576 := (e572 _ _ h556)
        have h577 := (e572 _ _ h546)
        exact ⟨_, [], Same.refl _, (S575.sub (all_cons (.head _) (all_cons (.tail _ (.tail _ (.head _))) (all_cons (.tail _ (.head _)) all_nil)))), h576, h577, h573, e572, hw⟩
      · intro i2 H578 hi hw
        obtain ⟨G581, acc583, eG582, S579, h590, h591, h580, eo589, hw⟩ := hw
        obtain ⟨z592, hw⟩ := cW_mapA (rng_get hi) hw
        generalize (0 + (i2 : Int)) = x593 at hw ⊢
        have hw := cW_noEr hw
        have hw : cW (F__law_packed_c2 (((bits') ++ ([1])) ++ (repL ([0]) (((8 - (((((bits') ++ ([1])) : (List Int)).length : Int) % 8)) % 8)))) (x558) (x593)) _ (fun _ => False) := hw
        unfold F__law_packed_c2 at hw
        refine ⟨rfl, ?_⟩
        refine tyes_go ?_
        obtain ⟨g595, hw⟩ := cW_grd hw
        obtain ⟨g596, hw⟩ := cW_grd hw
        refine ⟨_, rfl, _, rfl, _, _, rfl, rfl, (.inl ⟨by decide, by decide⟩), _, rfl, _, _, rfl, rfl, _, _, _, _, rfl, rfl, (SqL.of h590), (atI_map g595), _, rfl, _, _, rfl, rfl, _, _, rfl, rfl, (shl_side g596.1 g596.2.1 g596.2.2.1 g596.2.2.2), _, h580, (app_lenM z592), ?_⟩
        generalize g597 : upd H578 D565 _ = H598
        obtain ⟨x599, h600⟩ := gen_mut g597
        have S601 := S579.mut1 x599 (.head _) h600
        have hw := cW_ok hw
        have h602 := (x599 _ _ h590 (ne_of_none h556 n566))
        have h603 := (x599 _ _ h591 (ne_of_none h546 n566))
        exact ⟨_, (acc583 ++ [((itD (((bits') ++ ([1])) ++ (repL ([0]) (((8 - (((((bits') ++ ([1])) : (List Int)).length : Int) % 8)) % 8)))) (((8 * x558) + x593))) * 2 ^ Int.toNat ((7 - x593)))]), eG582, S601, h602, h603, (snoc_map h600), (same_mut eo589 x599 n566), hw⟩
      intro H604 hw
      obtain ⟨G607, acc609, eG608, S605, h616, h617, h606, eo615, hw⟩ := hw
      have hw := hK564 _ (cW_mapA0 (rng_len _ _).symm hw)
      have fr618 := S545.free n566
      refine ⟨_, _, rfl, (SqL.of h606), _, h617, (app_lenM z557), ?_⟩
      generalize g619 : upd H604 D532 _ = H620
      obtain ⟨x621, h622⟩ := gen_mut g619
      have S623 := S605.mut1 x621 (.tail _ (.tail _ (.head _))) h622
      have hw := cW_ok hw
      have h624 := (x621 _ _ h616 (ne_of_none h524 n533))
      exact ⟨_, (acc549 ++ [(List.sum (acc609))]), (Same.trans eG548 eG608), (S623.sub (all_cons (.tail _ (.tail _ (.head _))) (all_cons (.tail _ (.head _)) all_nil))), h624, (snoc_map h622), (same_mut (Same.trans eo555 eo615) x621 n533), hw⟩
    intro H625 hw
    obtain ⟨G628, acc630, eG629, S626, h637, h627, eo636, hw⟩ := hw
    have hw := hK531 _ (cW_mapA0 (rng_len _ _).symm hw)
    have fr638 := S526.free n533
    have hw := cW_ok hw
    exact hK0 _ hw _ _ fr638 S626.b0 h627

abbrev N_BitWriter_length : List Str := ["self"]
theorem sc_BitWriter_length : FnScope N_BitWriter_length ["self"] (defScope s_BitWriter_length) := ⟨rfl, rfl, rfl, by decide +kernel, rfl, by decide +kernel, by decide +kernel⟩
theorem ok_BitWriter_length (D : PropX K AD.c_BitWriter "BitWriter.length" "length" s_BitWriter_length ["self"] pats_BitWriter_length) (T : Txt w K mg AD)  : PropY P w K mg base 1 AD.c_BitWriter "length" (sp_BitWriter_length K AD) pats_BitWriter_length := by
  refine D.ok T.cl_BitWriter sc_BitWriter_length (fun vs H Q E h => ?_) (fun f cdv A_ outer s H vs Q E hr h => ?_)
  · obtain ⟨G, p_self, l_self_full, dx_self, self', rfl, _⟩ := h
    rfl
  · obtain ⟨G, p_self, l_self_full, dx_self, self', rfl, sG, h_p_self, h_l_self_full, hw⟩ := h
    refine ⟨_, (pss_one (ps_ret (pe_op op_add (pe_op op_mul pe_int (pe_callB (call_lenLiK (K := K)) (by rfl) T.b_len (by decide +kernel) (pa_cons (fldK (K := K) (pv 0)) pa_nil))) (fldK (K := K) (pv 0))))), ?_⟩
    obtain ⟨KK, EE, hK0, hE, hw⟩ := cW_gen hw
    have S0 := Sep.startG sG
    unfold F_BitWriter_length at hw
    refine ⟨_, rfl, _, _, _, _, _, rfl, (S0.bM _ _ h_p_self), T.cl_BitWriter, T.n_BitWriter__full, rfl, _, _, rfl, (SqL.of (S0.bM _ _ h_l_self_full)), _, _, rfl, rfl, (.inl ⟨by decide, by decide⟩), _, rfl, _, _, _, _, _, rfl, (S0.bM _ _ h_p_self), T.cl_BitWriter, T.n_BitWriter__rest_bits, rfl, _, _, rfl, rfl, ?_⟩
    have hw := cW_ok hw
    exact hK0 _ hw _ S0.b0

abbrev N__law_octets_refused : List Str := ["octets", "before", "e"]
theorem sc__law_octets_refused : FnScope N__law_octets_refused ["octets"] (defScope s__law_octets_refused) := ⟨rfl, rfl, rfl, by decide +kernel, rfl, by decide +kernel, by decide +kernel⟩
theorem ok__law_octets_refused (D : DefX K mg "_law_octets_refused" s__law_octets_refused ["octets"] pats__law_octets_refused) (T : Txt w K mg AD) (c_BitReader___init__ : MakX P w K mg base 2 "BitReader" AD.c_BitReader (sp_BitReader___init__ K AD) pats_BitReader___init__) : CalX P w K mg base 4 "_law_octets_refused" (sp__law_octets_refused K AD) pats__law_octets_refused := by
  refine D.ok sc__law_octets_refused (fun vs H Q E h => ?_) (fun f cdv A_ outer s H vs Q E hr h => ?_)
  · obtain ⟨G, a_octets, octets', rfl, _⟩ := h
    rfl
  · obtain ⟨G, a_octets, octets', rfl, sG, q_octets, hw⟩ := h
    refine ⟨_, (pss_cons (ps_set (i := 1) sc__law_octets_refused.nd rfl (Or.inl rfl) (pe_callTy (call_listLK (K := K)) (by rfl) T.b_list (by decide +kernel) (pa_cons (pv 0) pa_nil)))
      (pss_cons (ps_try_as (i := 2) rfl rfl sc__law_octets_refused.nd rfl rfl ⟨rfl, by decide, .inl T.xg_BadOctets⟩ (takes_of rfl rfl rfl rfl) (fun W pn xe tk pse => (pss_one (ps_expr (vx_makeX c_BitReader___init__ pat_BitReader___init___0 (.head _) hr (by decide) tk rfl (pa_cons (pv 0) pa_nil) pk_nil)))) (fun a oe cls d pn hz hf => (pss_one (ps_ret (pe_and (pe_callB (call_isX (K := K) hz hf) (by rfl) T.b_isinstance (by decide +kernel) (pa_cons (pv 2) (pa_cons (C8.pe_gc (v := V.ref AD.x_CodecError) rfl ⟨_, T.xg_CodecError, rfl⟩) pa_nil))) (pe_and (pe_not (pe_callB (call_isX (K := K) hz hf) (by rfl) T.b_isinstance (by decide +kernel) (pa_cons (pv 2) (pa_cons (C8.pe_gc (v := V.ref AD.x_OutOfBits) rfl ⟨_, T.xg_OutOfBits, rfl⟩) pa_nil)))) (pe_one (pe_cmpR (op_eqT (encOk_L encOk_int) hr.units) (pv 0) (pv 1) (nomark _)))))))))
      (pss_one (ps_ret pe_bl)))), ?_⟩
    obtain ⟨KK, EE, hK0, hE, hw⟩ := cW_gen hw
    have S0 := Sep.startG sG
    unfold F__law_octets_refused at hw
    refine ⟨_, rfl, _, _, rfl, (SqL.of (S0.bM _ _ q_octets)), fun p639 n640 => ?_⟩
    generalize g641 : upd H p639 _ = H642
    obtain ⟨e643, h644⟩ := gen_new n640 g641
    have h645 : H642 p639 = some (.lst ((octets' : (List Int)).map V.int)) := h644
    have fr646 := S0.free n640
    have S647 := S0.new n640 e643 h645 fr646
    refine ⟨_, rfl, rfl, rfl, fun x648 dx649 n650 n651 n652 => ?_⟩
    generalize g653 : upd (upd H642 dx649 _) x648 _ = H654
    obtain ⟨e655, h656⟩ := gen_obj n650 n651 n652 g653
    have fr657 := S647.free n650
    have S658 := S647.new n650 e655 h656 fr657
    refine ⟨G, _, _, _, _, rfl, S658.sG, (S658.gno (all_cons (.head _) all_nil)), h656, ((hideL_out (ni1 (b_ne q_octets S658 (.head _)))).trans (S658.bM _ _ q_octets)), cW_try hw (fun v659 hw H661 l660 x662 n666 h663 h665 => ⟨rfl, ?_⟩) ?_⟩
    · have fr667 := S658.free n666
      have S664 : Sep _ _ _ _ H661 [l660, x648, p639] := Sep.init S658 x662 (.head _) h663 [l660] (all_cons ⟨n666, some_ne h665, fr667⟩ all_nil)
      have hw := cW_ok hw
      exact hK0 _ hw _ S664.b0
    · intro e hm hw H668 e669
      have e671 := (same_mut e655 e669 n650)
      have S670 := S647.same e671
      obtain rfl := mem_one hm
      refine ⟨true, T.xm_BadOctets_BadOctets, fun _ a672 na673 => ?_, fun q => nomatch q⟩
      refine ⟨_, rfl, _, _, _, rfl, rfl, T.xc_BadOctets, rfl, T.xo_BadOctets_CodecError, _, rfl, ?_⟩
      refine iteT ?_
      refine ⟨_, rfl, _, _, _, rfl, rfl, T.xc_BadOctets, rfl, T.xn_BadOctets_OutOfBits, _, rfl, _, rfl, ?_⟩
      refine iteT ?_
      have h674 := (e671 _ _ h645)
      refine ⟨_, rfl, _, rfl, _, _, (rp_mk_ints (S670.bM _ _ q_octets)), (rp_mk_ints h674), ?_⟩
      have hw := cW_ok hw
      exact hK0 _ hw _ S670.b0

abbrev N_BitReader__look : List Str := ["self", "place", "count", "end", "value", "octet"]
theorem sc_BitReader__look : FnScope N_BitReader__look ["self", "place", "count"] (defScope s_BitReader__look) := ⟨rfl, rfl, rfl, by decide +kernel, rfl, by decide +kernel, by decide +kernel⟩
theorem ok_BitReader__look (D : MethX K AD.c_BitReader "BitReader._look" "_look" s_BitReader__look ["self", "place", "count"] pats_BitReader__look) (T : Txt w K mg AD)  : MetX P w K mg base 1 AD.c_BitReader "_look" (sp_BitReader__look K AD) pats_BitReader__look := by
  refine D.ok T.cl_BitReader sc_BitReader__look (fun vs H Q E h => ?_) (fun f cdv A_ outer s H vs Q E hr h => ?_)
  · obtain ⟨G, p_self, l_self_octs, dx_self, self', place', count', rfl, _⟩ := h
    rfl
  · obtain ⟨G, p_self, l_self_octs, dx_self, self', place', count', rfl, sG, h_p_self, h_l_self_octs, hw⟩ := h
    refine ⟨_, (pss_cons (ps_set (i := 3) sc_BitReader__look.nd rfl (Or.inl rfl) (pe_op op_add (pv 1) (pv 2)))
      (pss_cons (ps_if (pt_cmp (pc_gt (pv 3) (fldK (K := K) (pv 0)))) (pss_one (ps_raise rfl (takes_of rfl rfl rfl rfl) (pmk_own PySem.F.excBase_ValueError T.xx_OutOfBits T.xg_OutOfBits T.xk_OutOfBits (raises_own T.xb_OutOfBits T.xt_OutOfBits) rfl))) pss_nil)
      (pss_cons (ps_set (i := 4) sc_BitReader__look.nd rfl (Or.inl rfl) pe_int)
      (pss_cons (ps_for (passes_of rfl) rfl (pi_listK (K := K) (pe_slice (sl_listK (K := K)) (fldK (K := K) (pv 0)) (po_some (pe_op op_fdivW (pv 1) pe_int)) (po_some (pe_op op_fdivW (pe_op op_add (pv 3) pe_int) pe_int)))) (pg_name (i := 5) sc_BitReader__look.nd rfl (Or.inl rfl)) (pss_one (ps_set (i := 4) sc_BitReader__look.nd rfl (Or.inl rfl) (pe_op op_or (pe_op op_shlW (pv 4) pe_int) (pv 5)))))
      (pss_one (ps_ret (pe_op op_and (pe_op op_shr (pv 4) (pe_op op_and (pe_un un_neg (pv 3)) pe_int)) (pe_op op_sub (pe_op op_shlW pe_int (pv 2)) pe_int)))))))), ?_⟩
    obtain ⟨KK, EE, hK0, hE, hw⟩ := cW_gen hw
    have S0 := Sep.startG sG
    unfold F_BitReader__look at hw
    refine ⟨_, rfl, _, rfl, _, _, rfl, rfl, ?_⟩
    have hw := cW_bnd hw
    refine ⟨_, rfl, _, rfl, _, _, _, _, _, rfl, (S0.bM _ _ h_p_self), T.cl_BitReader, T.n_BitReader__end, rfl, _, _, rfl, rfl, _, rfl, ?_⟩
    refine iteD (fun c676 => ?_) (fun c676 => ?_)
    · have hw := cW_pos c676 hw
      exact hE 2 (cW_er hw) _ S0.b0
    · have hw := cW_neg c676 hw
      refine ⟨_, rfl, _, _, _, _, _, rfl, (S0.bM _ _ h_p_self), T.cl_BitReader, T.n_BitReader__octets, rfl, _, rfl, _, _, rfl, rfl, (divW_lit (by decide) (by decide)), _, rfl, _, rfl, _, _, rfl, rfl, _, _, rfl, rfl, (divW_lit (by decide) (by decide)), _, rfl, _, _, rfl, (SqL.of (S0.bM _ _ h_l_self_octs)), fun p677 n678 => ?_⟩
      generalize g679 : upd H p677 _ = H680
      obtain ⟨e681, h682⟩ := gen_new n678 g679
      have h683 : H680 p677 = some (.lst ((cutL (self'.octs) (some ((place' / 8))) (some ((((place' + count') + 7) / 8))) : (List Int)).map V.int)) := cut_map h682
      have fr684 := S0.free n678
      have S685 := S0.new n678 e681 h683 fr684
      obtain ⟨K688, hK689, hw⟩ := cW_push hw
      refine ⟨_, rfl, ⟨_, (SqL.of h683)⟩, for_list (K := K) (a := p677) (xs := (cutL (self'.octs) (some ((place' / 8))) (some ((((place' + count') + 7) / 8))) : (List Int)).map V.int) (fun i σ H' => ∃ (value_690 : Int) (u691 : Option V) (G' : Hp), σ = [some (V.ref p_self), some (V.int (place')), some (V.int (count')), some (V.int ((place' + count'))), some (V.int value_690), u691] ∧ Same G G' ∧ Sep [] H G G' H' [p677] ∧ H' p677 = some (.lst ((cutL (self'.octs) (some ((place' / 8))) (some ((((place' + count') + 7) / 8))) : (List Int)).map V.int)) ∧ cW (forS (List.drop i (cutL (self'.octs) (some ((place' / 8))) (some ((((place' + count') + 7) / 8))))) value_690 (fun s x => F_BitReader__look_b1  s x)) K688 EE) ?_ ?_ ?_ ?_⟩
      · exact ⟨(0), _, _, rfl, (Same.refl _), S685, h683, hw⟩
      · intro i σ H692 _ hw
        obtain ⟨value_690, u691, G695, rfl, eG696, S693, h694, hw⟩ := hw
        exact (SqL.of h694)
      · intro i x σ H697 hj hw
        obtain ⟨value_690, u691, G700, rfl, eG701, S698, h699, hw⟩ := hw
        obtain ⟨x702, hx, rfl⟩ := map_get hj
        have hw := cW_forS hx hw
        have hw : cW (F_BitReader__look_b1  (value_690) (x702)) _ EE := hw
        unfold F_BitReader__look_b1 at hw
        obtain ⟨K704, hK705, hw⟩ := cW_name hw
        obtain ⟨g707, hw⟩ := cW_grd hw
        refine ⟨_, rfl, _, _, rfl, rfl, (shl_side g707.1 g707.2.1 g707.2.2.1 g707.2.2.2), _, rfl, _, _, rfl, rfl, ?_⟩
        have hw := cW_bnd hw
        have hw := cW_ok hw
        have hw := hK705 _ hw
        exact ⟨((PySem.Builtin.bitOr ((value_690 * 2 ^ Int.toNat (8))) (x702))), _, _, rfl, eG701, S698, h699, hw⟩
      · intro σ H709 hw
        obtain ⟨value_690, u691, G712, rfl, eG713, S710, h711, hw⟩ := hw
        have hw := hK689 _ (cW_forS0 (by rw [List.length_map]) hw)
        have hw : cW (F_BitReader__look_r1 (count') ((place' + count')) (value_690)) _ EE := hw
        unfold F_BitReader__look_r1 at hw
        obtain ⟨g715, hw⟩ := cW_grd hw
        obtain ⟨g716, hw⟩ := cW_grd hw
        refine ⟨_, rfl, _, rfl, _, rfl, _, _, rfl, rfl, _, _, rfl, rfl, g715, _, rfl, _, _, rfl, rfl, (shl_side g716.1 g716.2.1 g716.2.2.1 g716.2.2.2), _, _, rfl, rfl, _, _, rfl, rfl, ?_⟩
        have hw := cW_ok hw
        exact hK0 _ hw _ S710.b0

abbrev N_BitReader__take : List Str := ["self", "count", "value"]
theorem sc_BitReader__take : FnScope N_BitReader__take ["self", "count"] (defScope s_BitReader__take) := ⟨rfl, rfl, rfl, by decide +kernel, rfl, by decide +kernel, by decide +kernel⟩
theorem ok_BitReader__take (D : MethX K AD.c_BitReader "BitReader._take" "_take" s_BitReader__take ["self", "count"] pats_BitReader__take) (T : Txt w K mg AD) (c_BitReader__look : MetX P w K mg base 1 AD.c_BitReader "_look" (sp_BitReader__look K AD) pats_BitReader__look) : MetX P w K mg base 2 AD.c_BitReader "_take" (sp_BitReader__take K AD) pats_BitReader__take := by
  refine D.ok T.cl_BitReader sc_BitReader__take (fun vs H Q E h => ?_) (fun f cdv A_ outer s H vs Q E hr h => ?_)
  · obtain ⟨G, p_self, l_self_octs, dx_self, self', count', rfl, _⟩ := h
    rfl
  · obtain ⟨G, p_self, l_self_octs, dx_self, self', count', rfl, sG, gM, h_p_self, h_l_self_octs, hw⟩ := h
    refine ⟨_, (pss_cons (ps_set (i := 2) sc_BitReader__take.nd rfl (Or.inl rfl) (vx_methX c_BitReader__look pat_BitReader__look_0 (.head _) hr (by decide) (takes_of rfl rfl rfl rfl) (pv 0) (pa_cons (fldK (K := K) (pv 0)) (pa_cons (pv 1) pa_nil)) pk_nil))
      (pss_cons (ps_fldaug (pv 0) (pv 1) (pip iop_add))
      (pss_one (ps_ret (pv 2))))), ?_⟩
    obtain ⟨KK, EE, hK0, hE, hw⟩ := cW_gen hw
    have S0 := Sep.startM (M := [p_self, l_self_octs]) sG (all_cons (some_ne h_p_self) (all_cons (some_ne h_l_self_octs) all_nil)) gM
    unfold F_BitReader__take at hw
    refine ⟨_, rfl, _, _, _, rfl, h_p_self, rfl, _, rfl, _, _, _, _, _, rfl, h_p_self, T.cl_BitReader, T.n_BitReader__place, rfl, _, rfl, rfl, rfl, G, _, _, _, self', _, _, rfl, S0.sG, (hide_nil h_p_self), (hide_nil h_l_self_octs), cW_call hw (fun v717 hw H718 e719 => ?_) (fun e he H2 e2 => hE e he H2 (Same.trans (Same.refl _) e2))⟩
    have S720 := S0.same e719
    have h721 := (e719 _ _ h_p_self)
    have hw := cW_bnd hw
    refine ⟨_, rfl, _, _, _, _, _, rfl, h721, T.cl_BitReader, T.n_BitReader__place, rfl, _, rfl, _, _, rfl, rfl, _, _, h721, (by show 3 < 1000; decide), ?_⟩
    generalize g723 : upd H718 p_self _ = H724
    obtain ⟨x725, h726⟩ := gen_mut g723
    have h727 : H724 p_self = some (.ins AD.c_BitReader dx_self [("_octets", V.ref l_self_octs), ("_place", V.int ((self'.place + count'))), ("_end", V.int (self'.stop))]) := h726
    have S728 := S720.mut1 x725 (.head _) h727
    refine ⟨_, rfl, ?_⟩
    have h729 := (x725 _ _ (e719 _ _ h_l_self_octs) (ne_of h_l_self_octs h_p_self (fun z => nomatch z)))
    have hw := cW_ok hw
    exact hK0 _ hw _ S728.base h727 h729

abbrev N_BitReader_get : List Str := ["self", "count"]
theorem sc_BitReader_get : FnScope N_BitReader_get ["self", "count"] (defScope s_BitReader_get) := ⟨rfl, rfl, rfl, by decide +kernel, rfl, by decide +kernel, by decide +kernel⟩
theorem ok_BitReader_get (D : MethX K AD.c_BitReader "BitReader.get" "get" s_BitReader_get ["self", "count"] pats_BitReader_get) (T : Txt w K mg AD) (c_BitReader__take : MetX P w K mg base 2 AD.c_BitReader "_take" (sp_BitReader__take K AD) pats_BitReader__take) : MetX P w K mg base 3 AD.c_BitReader "get" (sp_BitReader_get K AD) pats_BitReader_get := by
  refine D.ok T.cl_BitReader sc_BitReader_get (fun vs H Q E h => ?_) (fun f cdv A_ outer s H vs Q E hr h => ?_)
  · obtain ⟨G, p_self, l_self_octs, dx_self, self', count', rfl, _⟩ := h
    rfl
  · obtain ⟨G, p_self, l_self_octs, dx_self, self', count', rfl, sG, gM, h_p_self, h_l_self_octs, hw⟩ := h
    refine ⟨_, (pss_cons (ps_if (pt_not (pt_chain op_le op_le pe_int (pv 1) (C8.pe_gc rfl T.g_MOST_BITS))) (pss_one (ps_raise rfl (takes_of rfl rfl rfl rfl) (pmk_own PySem.F.excBase_ValueError T.xx_OutOfRange T.xg_OutOfRange T.xk_OutOfRange (raises_own T.xb_OutOfRange T.xt_OutOfRange) rfl))) pss_nil)
      (pss_one (ps_ret (vx_methX c_BitReader__take pat_BitReader__take_0 (.head _) hr (by decide) (takes_of rfl rfl rfl rfl) (pv 0) (pa_cons (pv 1) pa_nil) pk_nil)))), ?_⟩
    obtain ⟨KK, EE, hK0, hE, hw⟩ := cW_gen hw
    have S0 := Sep.startM (M := [p_self, l_self_octs]) sG (all_cons (some_ne h_p_self) (all_cons (some_ne h_l_self_octs) all_nil)) gM
    unfold F_BitReader_get at hw
    refine ⟨_, rfl, _, _, rfl, rfl, _, rfl, ?_⟩
    refine iteD (fun c730 => ?_) (fun c730 => ?_)
    · have hw := cW_pos c730 hw
      refine ⟨_, _, rfl, rfl, _, rfl, ?_⟩
      refine iteN (fun c731 => ?_) (fun c731 => ?_)
      · have hw := cW_neg c731 hw
        exact hE 1 (cW_er hw) _ (Same.refl _)
      · have hw := cW_pos c731 hw
        refine ⟨_, rfl, _, _, _, rfl, h_p_self, rfl, _, rfl, rfl, rfl, G, _, _, _, self', _, rfl, S0.sG, (S0.gno (all_cons (.head _) (all_cons (.tail _ (.head _)) all_nil))), h_p_self, h_l_self_octs, cW_call hw (fun v732 hw H733 x734 h736 h737  => ?_) (fun e he H2 e2 => hE e he H2 (Same.trans (Same.refl _) e2))⟩
        have S735 := S0.mut x734 (all_cons (.head _) (all_cons (.tail _ (.head _)) all_nil)) (all_cons (some_ne h736) (all_cons (some_ne h737) all_nil))
        have hw := cW_ok hw
        exact hK0 _ hw _ S735.base h736 h737
    · have hw := cW_neg c730 hw
      refine ⟨_, rfl, ?_⟩
      refine iteT ?_
      exact hE 1 (cW_er hw) _ (Same.refl _)

abbrev N_BitReader_left : List Str := ["self"]
theorem sc_BitReader_left : FnScope N_BitReader_left ["self"] (defScope s_BitReader_left) := ⟨rfl, rfl, rfl, by decide +kernel, rfl, by decide +kernel, by decide +kernel⟩
theorem ok_BitReader_left (D : PropX K AD.c_BitReader "BitReader.left" "left" s_BitReader_left ["self"] pats_BitReader_left) (T : Txt w K mg AD)  : PropQ P w K mg base 1 AD.c_BitReader "left" (sp_BitReader_left K AD) pats_BitReader_left := by
  refine D.okQ T.cl_BitReader sc_BitReader_left (fun vs H Q E h => ?_) (fun f cdv A_ outer s H vs Q E hr h => ?_) (fun f cdv A_ outer s H vs Q E pin_ h => ?_)
  · obtain ⟨G, p_self, l_self_octs, dx_self, self', rfl, _⟩ := h
    rfl
  · obtain ⟨G, p_self, l_self_octs, dx_self, self', rfl, sG, h_p_self, h_l_self_octs, hw⟩ := h
    refine ⟨_, (pss_one (ps_ret (pe_op op_sub (fldK (K := K) (pv 0)) (fldK (K := K) (pv 0))))), ?_⟩
    obtain ⟨KK, EE, hK0, hE, hw⟩ := cW_gen hw
    have S0 := Sep.startG sG
    unfold F_BitReader_left at hw
    refine ⟨_, rfl, _, _, _, _, _, rfl, (S0.bM _ _ h_p_self), T.cl_BitReader, T.n_BitReader__end, rfl, _, rfl, _, _, _, _, _, rfl, (S0.bM _ _ h_p_self), T.cl_BitReader, T.n_BitReader__place, rfl, _, _, rfl, rfl, ?_⟩
    have hw := cW_ok hw
    exact hK0 _ hw _ S0.b0
  · obtain ⟨G, p_self, l_self_octs, dx_self, self', rfl, sG, h_p_self, h_l_self_octs, hw⟩ := h
    refine ⟨_, (pss_one (ps_ret (pe_op op_sub (fldK (K := K) (pv 0)) (fldK (K := K) (pv 0))))), ?_⟩
    obtain ⟨KK, EE, hK0, hE, hw⟩ := cW_gen hw
    have S0 := Sep.startG sG
    unfold F_BitReader_left at hw
    refine ⟨_, rfl, _, _, _, _, _, rfl, (S0.bM _ _ h_p_self), T.cl_BitReader, T.n_BitReader__end, rfl, _, rfl, _, _, _, _, _, rfl, (S0.bM _ _ h_p_self), T.cl_BitReader, T.n_BitReader__place, rfl, _, _, rfl, rfl, ?_⟩
    have hw := cW_ok hw
    exact hK0 _ hw _ S0.b0

abbrev N__law_get_refused : List Str := ["reader", "count", "left", "e"]
theorem sc__law_get_refused : FnScope N__law_get_refused ["reader", "count"] (defScope s__law_get_refused) := ⟨rfl, rfl, rfl, by decide +kernel, rfl, by decide +kernel, by decide +kernel⟩
theorem ok__law_get_refused (D : DefX K mg "_law_get_refused" s__law_get_refused ["reader", "count"] pats__law_get_refused) (T : Txt w K mg AD) (c_BitReader_left : PropQ P w K mg base 1 AD.c_BitReader "left" (sp_BitReader_left K AD) pats_BitReader_left) (c_BitReader_get : MetX P w K mg base 3 AD.c_BitReader "get" (sp_BitReader_get K AD) pats_BitReader_get) : CalX P w K mg base 4 "_law_get_refused" (sp__law_get_refused K AD) pats__law_get_refused := by
  refine D.ok sc__law_get_refused (fun vs H Q E h => ?_) (fun f cdv A_ outer s H vs Q E hr h => ?_)
  · obtain ⟨G, p_reader, l_reader_octs, dx_reader, reader', count', rfl, _⟩ := h
    rfl
  · obtain ⟨G, p_reader, l_reader_octs, dx_reader, reader', count', rfl, sG, gM, h_p_reader, h_l_reader_octs, hw⟩ := h
    refine ⟨_, (pss_cons (ps_set (i := 2) sc__law_get_refused.nd rfl (Or.inl rfl) (vx_propX c_BitReader_left.y hr (by decide) (pv 0)))
      (pss_cons (Ve.ps_try_cls rfl rfl sc__law_get_refused.nd (takes_of rfl rfl rfl rfl) (fun W pn xe tk pse => (pss_one (ps_expr (vx_methX c_BitReader_get pat_BitReader_get_0 (.head _) hr (by decide) tk (pv 0) (pa_cons (pv 1) pa_nil) pk_nil)))) (.cons (Ve.cl_mk (i := 3) ⟨rfl, by decide, .inl T.xg_OutOfRange⟩ rfl rfl (fun a oe cls d pn hz hf => (pss_one (ps_ret (pe_and (pe_callB (call_isX (K := K) hz hf) (by rfl) T.b_isinstance (by decide +kernel) (pa_cons (pv 3) (pa_cons (C8.pe_gc (v := V.ref AD.x_CodecError) rfl ⟨_, T.xg_CodecError, rfl⟩) pa_nil))) (pe_and (pe_not (pe_chain op_le op_le pe_int (pv 1) pe_int)) (pe_one (pe_cmp (pc_eqI (vx_propQ List.mem_cons_self c_BitReader_left hr.q (by decide) (pv 0)) (pv 2)))))))))) (.cons (Ve.cl_mk (i := 3) ⟨rfl, by decide, .inl T.xg_OutOfBits⟩ rfl rfl (fun a oe cls d pn hz hf => (pss_one (ps_ret (pe_and (pe_callB (call_isX (K := K) hz hf) (by rfl) T.b_isinstance (by decide +kernel) (pa_cons (pv 3) (pa_cons (C8.pe_gc (v := V.ref AD.x_CodecError) rfl ⟨_, T.xg_CodecError, rfl⟩) pa_nil))) (pe_and (pe_chain op_lt op_le (pv 2) (pv 1) pe_int) (pe_one (pe_cmp (pc_eqI (vx_propQ List.mem_cons_self c_BitReader_left hr.q (by decide) (pv 0)) (pv 2)))))))))) .nil)))
      (pss_one (ps_ret pe_bl)))), ?_⟩
    obtain ⟨KK, EE, hK0, hE, hw⟩ := cW_gen hw
    have S0 := Sep.startM (M := [p_reader, l_reader_octs]) sG (all_cons (some_ne h_p_reader) (all_cons (some_ne h_l_reader_octs) all_nil)) gM
    unfold F__law_get_refused at hw
    refine ⟨_, rfl, _, _, _, rfl, h_p_reader, G, _, _, _, reader', rfl, S0.sG, (hide_nil h_p_reader), (hide_nil h_l_reader_octs), cW_callN hw (fun v742 hw H743 e744 => ?_) trivial⟩
    have S745 := S0.same e744
    have h746 := (e744 _ _ h_p_reader)
    have h747 := (e744 _ _ h_l_reader_octs)
    refine ⟨_, rfl, _, _, _, rfl, h746, rfl, _, rfl, rfl, rfl, G, _, _, _, reader', _, rfl, S745.sG, (S745.gno (all_cons (.head _) (all_cons (.tail _ (.head _)) all_nil))), h746, h747, cW_try hw (fun v748 hw H749 x750 h752 h753  => ?_) ?_⟩
    · have S751 := S745.mut x750 (all_cons (.head _) (all_cons (.tail _ (.head _)) all_nil)) (all_cons (some_ne h752) (all_cons (some_ne h753) all_nil))
      have hw := cW_ok hw
      exact hK0 _ hw _ S751.base h752 h753
    · intro e hm hw H758 e759
      have S760 := S745.same e759
      rcases mem_cons2 hm with rfl | hm
      · have hw := cW_pos rfl hw
        refine ⟨true, T.xm_OutOfRange_OutOfRange, fun _ a761 na762 => ?_, fun q => nomatch q⟩
        refine ⟨_, rfl, _, _, _, rfl, rfl, T.xc_OutOfRange, rfl, T.xo_OutOfRange_CodecError, _, rfl, ?_⟩
        refine iteT ?_
        refine ⟨_, rfl, _, _, rfl, rfl, _, rfl, ?_⟩
        refine iteD (fun c763 => ?_) (fun c763 => ?_)
        · have hw := cW_pos c763 hw
          refine ⟨_, _, rfl, rfl, _, rfl, _, rfl, ?_⟩
          refine iteB (fun c764 => ?_) (fun c764 => ?_)
          · have hw := cW_pos c764 hw
            have h765 := (e759 _ _ h746)
            have h766 := (e759 _ _ h747)
            refine ⟨_, rfl, _, _, _, rfl, h765, G, _, _, _, reader', rfl, S760.sG, (hide_nil h765), (hide_nil h766), cW_callN hw (fun v767 hw H768 e769 => ?_) trivial⟩
            have S770 := S760.same e769
            refine ⟨_, rfl, _, _, rfl, rfl, ?_⟩
            have h771 := (e769 _ _ h765)
            have h772 := (e769 _ _ h766)
            have hw := cW_ok hw
            exact hK0 _ hw _ S770.base h771 h772
          · have hw := cW_negB c764 hw
            have h773 := (e759 _ _ h746)
            have h774 := (e759 _ _ h747)
            have hw := cW_ok hw
            exact hK0 _ hw _ S760.base h773 h774
        · have hw := cW_neg c763 hw
          refine ⟨_, rfl, _, rfl, ?_⟩
          refine iteT ?_
          have h775 := (e759 _ _ h746)
          have h776 := (e759 _ _ h747)
          refine ⟨_, rfl, _, _, _, rfl, h775, G, _, _, _, reader', rfl, S760.sG, (hide_nil h775), (hide_nil h776), cW_callN hw (fun v777 hw H778 e779 => ?_) trivial⟩
          have S780 := S760.same e779
          refine ⟨_, rfl, _, _, rfl, rfl, ?_⟩
          have h781 := (e779 _ _ h775)
          have h782 := (e779 _ _ h776)
          have hw := cW_ok hw
          exact hK0 _ hw _ S780.base h781 h782
      obtain rfl := mem_one hm
      · have hw := cW_neg (by decide) hw
        refine ⟨false, T.xmf_OutOfBits_OutOfRange, (fun q => nomatch q), fun _ => ⟨true, T.xm_OutOfBits_OutOfBits, fun _ a783 na784 => ?_, fun q => nomatch q⟩⟩
        refine ⟨_, rfl, _, _, _, rfl, rfl, T.xc_OutOfBits, rfl, T.xo_OutOfBits_CodecError, _, rfl, ?_⟩
        refine iteT ?_
        refine ⟨_, rfl, _, rfl, _, _, rfl, rfl, _, rfl, ?_⟩
        refine iteD (fun c785 => ?_) (fun c785 => ?_)
        · have hw := cW_pos c785 hw
          refine ⟨_, _, rfl, rfl, _, rfl, ?_⟩
          refine iteB (fun c786 => ?_) (fun c786 => ?_)
          · have hw := cW_pos c786 hw
            have h787 := (e759 _ _ h746)
            have h788 := (e759 _ _ h747)
            refine ⟨_, rfl, _, _, _, rfl, h787, G, _, _, _, reader', rfl, S760.sG, (hide_nil h787), (hide_nil h788), cW_callN hw (fun v789 hw H790 e791 => ?_) trivial⟩
            have S792 := S760.same e791
            refine ⟨_, rfl, _, _, rfl, rfl, ?_⟩
            have h793 := (e791 _ _ h787)
            have h794 := (e791 _ _ h788)
            have hw := cW_ok hw
            exact hK0 _ hw _ S792.base h793 h794
          · have hw := cW_negB c786 hw
            have h795 := (e759 _ _ h746)
            have h796 := (e759 _ _ h747)
            have hw := cW_ok hw
            exact hK0 _ hw _ S760.base h795 h796
        · have hw := cW_neg c785 hw
          refine ⟨_, rfl, ?_⟩
          refine iteF ?_
          have h797 := (e759 _ _ h746)
          have h798 := (e759 _ _ h747)
          have hw := cW_ok hw
          exact hK0 _ hw _ S760.base h797 h798

abbrev N_law : List Str := ["script", "draws", "writer", "size", "bits", "count", "item", "octets", "some", "reader", "taken", "left", "long", "k"]
theorem sc_law : FnScope N_law ["script"] (defScope s_law) := ⟨rfl, rfl, rfl, by decide +kernel, rfl, by decide +kernel, by decide +kernel⟩
theorem ok_law {f : Addr} {fd : FuncData} (F : FunD K "law" "law" (defArgs s_law) (defBody s_law) (defScope s_law) [] [] f fd) (T : Txt w K mg AD) (c__law_draws : CalX P w K mg base 1 "_law_draws" (sp__law_draws K AD) pats__law_draws) (c__law_cell : CalX P w K mg base 1 "_law_cell" (sp__law_cell K AD) pats__law_cell) (c_BitWriter___init__ : MakX P w K mg base 1 "BitWriter" AD.c_BitWriter (sp_BitWriter___init__ K AD) pats_BitWriter___init__) (c__law_bits : CalX P w K mg base 1 "_law_bits" (sp__law_bits K AD) pats__law_bits) (c_BitWriter_put : MetX P w K mg base 2 AD.c_BitWriter "put" (sp_BitWriter_put K AD) pats_BitWriter_put) (c__law_put_refused : CalX P w K mg base 4 "_law_put_refused" (sp__law_put_refused K AD) pats__law_put_refused) (c_BitWriter_octets : MetX P w K mg base 1 AD.c_BitWriter "octets" (sp_BitWriter_octets K AD) pats_BitWriter_octets) (c_BitWriter_length : PropY P w K mg base 1 AD.c_BitWriter "length" (sp_BitWriter_length K AD) pats_BitWriter_length) (c__law_packed : CalX P w K mg base 1 "_law_packed" (sp__law_packed K AD) pats__law_packed) (c__law_octets_refused : CalX P w K mg base 4 "_law_octets_refused" (sp__law_octets_refused K AD) pats__law_octets_refused) (c_BitReader___init__ : MakX P w K mg base 2 "BitReader" AD.c_BitReader (sp_BitReader___init__ K AD) pats_BitReader___init__) (c_BitReader_get : MetX P w K mg base 3 AD.c_BitReader "get" (sp_BitReader_get K AD) pats_BitReader_get) (c__law_get_refused : CalX P w K mg base 4 "_law_get_refused" (sp__law_get_refused K AD) pats__law_get_refused) (c_BitReader_left : PropQ P w K mg base 1 AD.c_BitReader "left" (sp_BitReader_left K AD) pats_BitReader_left) : FnG P w K mg base CX0 5 f fd ["script"] (sp_law K AD) := by
  refine FnG.bodyN F sc_law (fun vs H Q E h => ?_) (fun cdv A_ outer s H vs Q E hr h => ?_)
  · obtain ⟨a_script, script, rfl, _⟩ := h
    rfl
  · obtain ⟨a_script, script', rfl, q_script, hw, k⟩ := h
    refine ⟨_, (pss_cons (ps_set (i := 1) sc_law.nd rfl (Or.inl rfl) (vx_callX c__law_draws pat__law_draws_0 (.head _) hr (by decide) takes0 rfl (pa_cons (vx_callX c__law_cell pat__law_cell_0 (.head _) hr (by decide) takes0 rfl (pa_cons (pv 0) (pa_cons pe_int pa_nil)) pk_nil) (pa_cons (pe_lst (pa_cons pe_int (pa_cons (pe_op op_pow pe_int pe_int) (pa_cons pe_int (pa_cons pe_int (pa_cons (pe_op op_pow pe_int pe_int) (pa_cons pe_int pa_nil))))))) pa_nil)) pk_nil))
      (pss_cons (ps_set (i := 2) sc_law.nd rfl (Or.inl rfl) (vx_makeX0 c_BitWriter___init__ pat_BitWriter___init___0 (.head _) hr (by decide) takes0 rfl))
      (pss_cons (ps_set (i := 3) sc_law.nd rfl (Or.inl rfl) (pe_ix (ix_listK (K := K)) (pv 1) pe_int (fun _ _ => rfl)))
      (pss_cons (ps_set (i := 4) sc_law.nd rfl (Or.inr rfl) (vx_callX c__law_bits pat__law_bits_0 (.head _) hr (by decide) takes0 rfl (pa_cons (pe_op op_mod (pe_callTy call_int1 (by rfl) T.b_int (by decide +kernel) (pa_cons (pe_ix (ix_listK (K := K)) (pv 1) pe_int (fun _ _ => rfl)) pa_nil)) (pe_op op_shlW pe_int (pv 3))) (pa_cons (pv 3) pa_nil)) pk_nil))
      (pss_cons (ps_expr (vx_methX c_BitWriter_put pat_BitWriter_put_0 (.head _) hr (by decide) takes0 (pv 2) (pa_cons (pe_op op_mod (pe_callTy call_int1 (by rfl) T.b_int (by decide +kernel) (pa_cons (pe_ix (ix_listK (K := K)) (pv 1) pe_int (fun _ _ => rfl)) pa_nil)) (pe_op op_shlW pe_int (pv 3))) (pa_cons (pv 3) pa_nil)) pk_nil))
      (pss_cons (ps_set (i := 5) sc_law.nd rfl (Or.inl rfl) (pe_ix (ix_listK (K := K)) (pv 1) pe_int (fun _ _ => rfl)))
      (pss_cons (ps_for PassesOwn.never rfl (pi_listK (K := K) (pe_lst (pa_cons (pe_tup (pa_cons pe_int (pa_cons (pe_op op_add (pe_op op_shlW pe_int (pv 5)) (pe_ix (ix_listK (K := K)) (pv 1) pe_int (fun _ _ => rfl))) (pa_cons (pv 5) pa_nil)))) (pa_cons (pe_tup (pa_cons pe_int (pa_cons (pe_op op_shlW pe_int pe_int) (pa_cons pe_int pa_nil)))) (pa_cons (pe_tup (pa_cons pe_int (pa_cons (pe_op op_add (pe_op op_shlW pe_int pe_int) (pe_ix (ix_listK (K := K)) (pv 1) pe_int (fun _ _ => rfl))) (pa_cons pe_int pa_nil)))) (pa_cons (pe_tup (pa_cons pe_int (pa_cons (pe_op op_shlW pe_int (pv 5)) (pa_cons (pv 5) pa_nil)))) (pa_cons (pe_tup (pa_cons pe_int (pa_cons (pe_op op_sub (pe_un un_neg pe_int) (pe_ix (ix_listK (K := K)) (pv 1) pe_int (fun _ _ => rfl))) (pa_cons (pv 5) pa_nil)))) (pa_cons (pe_tup (pa_cons pe_int (pa_cons pe_int (pa_cons (pe_op op_add pe_int (pe_ix (ix_listK (K := K)) (pv 1) pe_int (fun _ _ => rfl))) pa_nil)))) (pa_cons (pe_tup (pa_cons pe_int (pa_cons pe_int (pa_cons (pe_op op_sub (pe_un un_neg pe_int) (pe_ix (ix_listK (K := K)) (pv 1) pe_int (fun _ _ => rfl))) pa_nil)))) pa_nil))))))))) (pg_name (i := 6) sc_law.nd rfl (Or.inl rfl)) (pss_one (ps_if (pt_not (pt_val (vx_callX c__law_put_refused pat__law_put_refused_0 (.head _) hr (by decide) takes0 rfl (pa_cons (pv 2) (pa_cons (pe_ix (ix_tupK (K := K)) (pv 6) pe_int (fun _ _ => rfl)) (pa_cons (pe_ix (ix_tupK (K := K)) (pv 6) pe_int (fun _ _ => rfl)) (pa_cons (pe_ix (ix_tupK (K := K)) (pv 6) pe_int (fun _ _ => rfl)) pa_nil)))) pk_nil))) (pss_one (ps_ret pe_bl)) pss_nil)))
      (pss_cons (ps_for PassesOwn.never rfl (pi_listK (K := K) (pe_lst (pa_cons (pe_tup (pa_cons pe_int (pa_cons (pe_op op_sub (pe_un un_neg pe_int) (pe_ix (ix_listK (K := K)) (pv 1) pe_int (fun _ _ => rfl))) pa_nil))) (pa_cons (pe_tup (pa_cons pe_int (pa_cons (pe_op op_add (pe_op op_add (pe_op op_pow pe_int pe_int) pe_int) (pe_ix (ix_listK (K := K)) (pv 1) pe_int (fun _ _ => rfl))) pa_nil))) (pa_cons (pe_tup (pa_cons pe_int (pa_cons (pe_op op_add (pe_op op_add (pe_op op_pow pe_int pe_int) pe_int) (pe_ix (ix_listK (K := K)) (pv 1) pe_int (fun _ _ => rfl))) pa_nil))) (pa_cons (pe_tup (pa_cons pe_int (pa_cons (pe_op op_sub (pe_op op_sub (pe_un un_neg (pe_op op_pow pe_int pe_int)) pe_int) (pe_ix (ix_listK (K := K)) (pv 1) pe_int (fun _ _ => rfl))) pa_nil))) pa_nil)))))) (pg_name (i := 6) sc_law.nd rfl (Or.inl rfl)) (pss_one (ps_if (pt_not (pt_val (vx_callX c__law_put_refused pat__law_put_refused_0 (.head _) hr (by decide) takes0 rfl (pa_cons (pv 2) (pa_cons (pe_ix (ix_tupK (K := K)) (pv 6) pe_int (fun _ _ => rfl)) (pa_cons (pe_ix (ix_tupK (K := K)) (pv 6) pe_int (fun _ _ => rfl)) (pa_cons pe_int pa_nil)))) pk_nil))) (pss_one (ps_ret pe_bl)) pss_nil)))
      (pss_cons (ps_set (i := 7) sc_law.nd rfl (Or.inl rfl) (vx_methX0 c_BitWriter_octets pat_BitWriter_octets_0 (.head _) hr (by decide) takes0 (pv 2)))
      (pss_cons (ps_if (PW.pt (pw_or (pt_cmpR (op_neT (encOk_L encOk_int) hr.units) (pv 7) (vx_callX c__law_packed pat__law_packed_0 (.head _) hr (by decide) takes0 rfl (pa_cons (pv 4) pa_nil) pk_nil) (nomark _)) (pw_or1 (pt_cmp (pc_neI (vx_propX c_BitWriter_length hr (by decide) (pv 2)) (pv 3)))))) (pss_one (ps_ret pe_bl)) pss_nil)
      (pss_cons (ps_set (i := 8) sc_law.nd rfl (Or.inl rfl) (vx_callX c__law_draws pat__law_draws_0 (.head _) hr (by decide) takes0 rfl (pa_cons (vx_callX c__law_cell pat__law_cell_0 (.head _) hr (by decide) takes0 rfl (pa_cons (pv 0) (pa_cons pe_int pa_nil)) pk_nil) (pa_cons (pe_lst (pa_cons pe_int (pa_cons pe_int (pa_cons pe_int (pa_cons pe_int (pa_cons pe_int pa_nil)))))) pa_nil)) pk_nil))
      (pss_cons (ps_if (PW.pt (pw_or (pt_not (pt_val (vx_callX c__law_octets_refused pat__law_octets_refused_0 (.head _) hr (by decide) takes0 rfl (pa_cons (pe_op op_cat (pe_slice (sl_listK (K := K)) (pv 8) (po_some pe_int) (po_some (pe_op op_add pe_int (pe_ix (ix_listK (K := K)) (pv 8) pe_int (fun _ _ => rfl))))) (pe_lst (pa_cons pe_int pa_nil))) pa_nil) pk_nil))) (pw_or1 (pt_not (pt_val (vx_callX c__law_octets_refused pat__law_octets_refused_0 (.head _) hr (by decide) takes0 rfl (pa_cons (pe_lst pa_nil) pa_nil) pk_nil)))))) (pss_one (ps_ret pe_bl)) pss_nil)
      (pss_cons (ps_set (i := 9) sc_law.nd rfl (Or.inl rfl) (vx_makeX c_BitReader___init__ pat_BitReader___init___0 (.head _) hr (by decide) takes0 rfl (pa_cons (pv 7) pa_nil) pk_nil))
      (pss_cons (ps_set (i := 10) sc_law.nd rfl (Or.inr rfl) (pe_op op_mod (pe_callTy call_int1 (by rfl) T.b_int (by decide +kernel) (pa_cons (pe_ix (ix_listK (K := K)) (pv 1) pe_int (fun _ _ => rfl)) pa_nil)) (pe_op op_add (pv 3) pe_int)))
      (pss_cons (ps_if (pt_cmp (pc_neI (vx_methX c_BitReader_get pat_BitReader_get_0 (.head _) hr (by decide) takes0 (pv 9) (pa_cons (pv 10) pa_nil) pk_nil) (pe_callB (cr_sumK (K := K) rfl) (by rfl) T.b_sum (by decide +kernel) (pa_cons (pe_lc (own := [("k", 13)]) (g := gName 13) (by rfl) sc_law.nd (pi_range1 rfl T.b_range (pa_cons (pv 10) pa_nil)) (blkOk_by (own := [("k", 13)]) (N := N_law) (sc := defScope s_law) (by decide +kernel)) (fun _ _ _ _ _ => (pg_name (i := 13) sc_law.nd rfl (Or.inl rfl))) (fun _ _ _ _ _ => pts_nil) (fun _ _ _ _ _ => (pe_op op_shlW (pe_ix (ix_listK (K := K)) (pv 4) (pv 13) (fun _ _ => rfl)) (pe_op op_sub (pe_op op_sub (pv 10) pe_int) (pv 13))))) pa_nil)))) (pss_one (ps_ret pe_bl)) pss_nil)
      (pss_cons (ps_set (i := 11) sc_law.nd rfl (Or.inr rfl) (pe_op op_sub (pv 3) (pv 10)))
      (pss_cons (ps_for PassesOwn.never rfl (pi_listK (K := K) (pe_lst (pa_cons (pe_op op_add (pv 11) pe_int) (pa_cons pe_int (pa_cons pe_int (pa_cons (pe_un un_neg pe_int) (pa_cons (pe_op op_add pe_int (pe_ix (ix_listK (K := K)) (pv 1) pe_int (fun _ _ => rfl))) (pa_cons (pe_op op_sub (pe_un un_neg pe_int) (pe_ix (ix_listK (K := K)) (pv 1) pe_int (fun _ _ => rfl))) pa_nil)))))))) (pg_name (i := 5) sc_law.nd rfl (Or.inl rfl)) (pss_one (ps_if (PW.pt (pw_and (PW.pt (pw_or (pt_cmp (pc_gt (pv 5) (pv 11))) (pw_or1 (pt_cmp (pc_lt (pv 5) pe_int))))) (pw_and1 (pt_not (pt_val (vx_callX c__law_get_refused pat__law_get_refused_0 (.head _) hr (by decide) takes0 rfl (pa_cons (pv 9) (pa_cons (pv 5) pa_nil)) pk_nil)))))) (pss_one (ps_ret pe_bl)) pss_nil)))
      (pss_cons (ps_expr (vx_methX c_BitWriter_put pat_BitWriter_put_0 (.head _) hr (by decide) takes0 (pv 2) (pa_cons pe_int (pa_cons pe_int pa_nil)) pk_nil))
      (pss_cons (ps_set (i := 12) sc_law.nd rfl (Or.inl rfl) (vx_makeX c_BitReader___init__ pat_BitReader___init___0 (.head _) hr (by decide) takes0 rfl (pa_cons (vx_methX0 c_BitWriter_octets pat_BitWriter_octets_0 (.head _) hr (by decide) takes0 (pv 2)) pa_nil) pk_nil))
      (pss_cons (ps_for PassesOwn.never rfl (pi_listK (K := K) (pe_lst (pa_cons pe_int (pa_cons (pe_op op_add pe_int (pe_op op_mod (pe_callTy call_int1 (by rfl) T.b_int (by decide +kernel) (pa_cons (pe_ix (ix_listK (K := K)) (pv 1) pe_int (fun _ _ => rfl)) pa_nil)) pe_int)) (pa_cons (pe_un un_neg pe_int) pa_nil))))) (pg_name (i := 5) sc_law.nd rfl (Or.inl rfl)) (pss_one (ps_if (PW.pt (pw_or (pt_not (pt_val (vx_callX c__law_get_refused pat__law_get_refused_0 (.head _) hr (by decide) takes0 rfl (pa_cons (pv 12) (pa_cons (pv 5) pa_nil)) pk_nil))) (pw_or1 (pt_cmp (pc_neI (vx_propX c_BitReader_left.y hr (by decide) (pv 12)) (pe_op op_add (pv 3) pe_int)))))) (pss_one (ps_ret pe_bl)) pss_nil)))
      (pss_one (ps_ret (pe_and (pe_cmp (pc_eqI (vx_propX c_BitReader_left.y hr (by decide) (pv 9)) (pv 11))) (pe_one (pe_cmp (pc_eqI (vx_methX c_BitReader_get pat_BitReader_get_0 (.head _) hr (by decide) takes0 (pv 9) (pa_cons (pv 11) pa_nil) pk_nil) (pe_callB (cr_sumK (K := K) rfl) (by rfl) T.b_sum (by decide +kernel) (pa_cons (pe_lc (own := [("k", 13)]) (g := gName 13) (by rfl) sc_law.nd (pi_range1 rfl T.b_range (pa_cons (pv 11) pa_nil)) (blkOk_by (own := [("k", 13)]) (N := N_law) (sc := defScope s_law) (by decide +kernel)) (fun _ _ _ _ _ => (pg_name (i := 13) sc_law.nd rfl (Or.inl rfl))) (fun _ _ _ _ _ => pts_nil) (fun _ _ _ _ _ => (pe_op op_shlW (pe_ix (ix_listK (K := K)) (pv 4) (pe_op op_add (pv 10) (pv 13)) (fun _ _ => rfl)) (pe_op op_sub (pe_op op_sub (pv 11) pe_int) (pv 13))))) pa_nil)))))))))))))))))))))))))))), ?_⟩
    obtain ⟨KK, EE, hK0, hE, hw⟩ := cW_gen hw
    have S0 := Sep.start0 H
    unfold F_law at hw
    refine ⟨_, rfl, rfl, rfl, H, _, _, _, rfl, S0.sG, (S0.b0.seq q_script), cW_call hw (fun v799 hw => ?_) (fun e he => (hE e he).elim)⟩
    refine ⟨_, _, rfl, rfl, ⟨by decide, by decide, by decide⟩, _, _, rfl, rfl, ⟨by decide, by decide, by decide⟩, (by show 6 ≤ sizeLine; decide), fun p800 n801 => ?_⟩
    generalize g802 : upd H p800 _ = H803
    obtain ⟨e804, h805⟩ := gen_new n801 g802
    have h806 : H803 p800 = some (.lst (([41, 1099511627776, 65, 3, 4294967296, 65] : (List Int)).map V.int)) := h805
    have fr807 := S0.free n801
    have S808 := S0.new n801 e804 h806 fr807
    refine ⟨rfl, rfl, H, _, _, _, rfl, S808.sG, (hide_nil h806), cW_call hw (fun v809 hw p812 H810 n813 e811 h814 => ?_) (fun e he => (hE e he).elim)⟩
    have h815 : H810 p812 = some (.lst ((v809 : (List Int)).map V.int)) := h814
    have fr816 := S808.free n813
    have S817 := S808.new n813 e811 h815 fr816
    refine ⟨rfl, rfl, fun x818 dx819 n820 n821 n822 => ?_⟩
    generalize g823 : upd (upd H810 dx819 _) x818 _ = H824
    obtain ⟨e825, h826⟩ := gen_obj n820 n821 n822 g823
    have fr827 := S817.free n820
    have S828 := S817.new n820 e825 h826 fr827
    refine ⟨H, _, _, rfl, S828.sG, (S828.gno (all_cons (.head _) all_nil)), h826, cW_call hw (fun v829 hw H831 l830 x832 n836 h833 h835 => ⟨rfl, ?_⟩) (fun e he => (hE e he).elim)⟩
    have fr837 := S828.free n836
    have S834 : Sep _ _ _ _ H831 [l830, x818, p812, p800] := Sep.init S828 x832 (.head _) h833 [l830] (all_cons ⟨n836, some_ne h835, fr837⟩ all_nil)
    obtain ⟨g838, hw⟩ := cW_grd hw
    have h839 := ((SameXs.of x832) _ _ (e825 _ _ h815) (ni1 (ne_of_none h815 n820)))
    refine ⟨_, rfl, _, _, _, _, rfl, rfl, (SqL.of h839), (atI_map g838), ?_⟩
    have hw := cW_bnd hw
    obtain ⟨g841, hw⟩ := cW_grd hw
    refine ⟨_, rfl, _, _, _, _, rfl, rfl, (SqL.of h839), (atI_map g841), .inl ⟨_, rfl, ?_⟩⟩
    obtain ⟨g842, hw⟩ := cW_grd hw
    obtain ⟨g843, hw⟩ := cW_grd hw
    refine ⟨_, rfl, _, _, rfl, rfl, (shl_side g842.1 g842.2.1 g842.2.2.1 g842.2.2.2), _, _, rfl, rfl, g843, _, rfl, rfl, rfl, H, _, _, rfl, S834.sG, cW_call hw (fun v844 hw p847 H845 n848 e846 h849 => ?_) (fun e he => (hE e he).elim)⟩
    have h850 : H845 p847 = some (.lst ((v844 : (List Int)).map V.int)) := h849
    have fr851 := S834.free n848
    have S852 := S834.new n848 e846 h850 fr851
    have h853 := (e846 _ _ h833)
    obtain ⟨g854, hw⟩ := cW_grd hw
    have h855 := (e846 _ _ h839)
    refine ⟨_, rfl, _, _, _, rfl, h853, rfl, _, rfl, _, _, _, _, rfl, rfl, (SqL.of h855), (atI_map g854), .inl ⟨_, rfl, ?_⟩⟩
    obtain ⟨g856, hw⟩ := cW_grd hw
    obtain ⟨g857, hw⟩ := cW_grd hw
    have h858 := (e846 _ _ h835)
    refine ⟨_, rfl, _, _, rfl, rfl, (shl_side g856.1 g856.2.1 g856.2.2.1 g856.2.2.2), _, _, rfl, rfl, g857, _, rfl, rfl, rfl, H, _, _, _, v829, _, _, rfl, S852.sG, (S852.gno (all_cons (.tail _ (.tail _ (.head _))) (all_cons (.tail _ (.head _)) all_nil))), h853, h858, cW_call hw (fun v859 hw H860 x861 h863 h864  => ?_) (fun e he => (hE e he).elim)⟩
    have S862 := S852.mut x861 (all_cons (.tail _ (.tail _ (.head _))) (all_cons (.tail _ (.head _)) all_nil)) (all_cons (some_ne h863) (all_cons (some_ne h864) all_nil))
    obtain ⟨g869, hw⟩ := cW_grd hw
    have h870 := (x861 _ _ h855 (ni2 (ne_of_none h815 n820) (ne_of_none (e825 _ _ h815) n836)))
    refine ⟨_, rfl, _, _, _, _, rfl, rfl, (SqL.of h870), (atI_map g869), ?_⟩
    have hw := cW_bnd hw
    obtain ⟨g872, hw⟩ := cW_grd hw
    obtain ⟨g873, hw⟩ := cW_grd hw
    refine ⟨_, rfl, _, _, rfl, rfl, (shl_side g872.1 g872.2.1 g872.2.2.1 g872.2.2.2), _, rfl, _, _, _, _, rfl, rfl, (SqL.of h870), (atI_map g873), _, _, rfl, rfl, _, rfl, (by show 3 ≤ sizeLine; decide), fun p874 n875 => ?_⟩
    generalize g876 : upd H860 p874 _ = H877
    obtain ⟨e878, h879⟩ := gen_new n875 g876
    have h880 : H877 p874 = some (.tup [V.int (0), V.int (((1 * 2 ^ Int.toNat ((itD (v809) (2)))) + (itD (v809) (4)))), V.int ((itD (v809) (2)))]) := h879
    have fr881 := S862.free n875
    obtain ⟨G883, eG884, hg885, S882⟩ := S862.grow n875 e878 h880 fr881
    obtain ⟨g886, hw⟩ := cW_grd hw
    refine ⟨_, _, rfl, rfl, (shl_side g886.1 g886.2.1 g886.2.2.1 g886.2.2.2), (by show 3 ≤ sizeLine; decide), fun p887 n888 => ?_⟩
    generalize g889 : upd H877 p887 _ = H890
    obtain ⟨e891, h892⟩ := gen_new n888 g889
    have h893 : H890 p887 = some (.tup [V.int (0), V.int ((1 * 2 ^ Int.toNat (64))), V.int (64)]) := h892
    have fr894 := S882.free n888
    obtain ⟨G896, eG897, hg898, S895⟩ := S882.grow n888 e891 h893 fr894
    obtain ⟨g899, hw⟩ := cW_grd hw
    obtain ⟨g900, hw⟩ := cW_grd hw
    have h901 := (e891 _ _ (e878 _ _ h870))
    refine ⟨_, _, rfl, rfl, (shl_side g899.1 g899.2.1 g899.2.2.1 g899.2.2.2), _, rfl, _, _, _, _, rfl, rfl, (SqL.of h901), (atI_map g900), _, _, rfl, rfl, (by show 3 ≤ sizeLine; decide), fun p902 n903 => ?_⟩
    generalize g904 : upd H890 p902 _ = H905
    obtain ⟨e906, h907⟩ := gen_new n903 g904
    have h908 : H905 p902 = some (.tup [V.int (0), V.int (((1 * 2 ^ Int.toNat (64)) + (itD (v809) (4)))), V.int (64)]) := h907
    have fr909 := S895.free n903
    obtain ⟨G911, eG912, hg913, S910⟩ := S895.grow n903 e906 h908 fr909
    obtain ⟨g914, hw⟩ := cW_grd hw
    refine ⟨_, rfl, _, _, rfl, rfl, (shl_side g914.1 g914.2.1 g914.2.2.1 g914.2.2.2), _, rfl, (by show 3 ≤ sizeLine; decide), fun p915 n916 => ?_⟩
    generalize g917 : upd H905 p915 _ = H918
    obtain ⟨e919, h920⟩ := gen_new n916 g917
    have h921 : H918 p915 = some (.tup [V.int (0), V.int ((1 * 2 ^ Int.toNat ((itD (v809) (2))))), V.int ((itD (v809) (2)))]) := h920
    have fr922 := S910.free n916
    obtain ⟨G924, eG925, hg926, S923⟩ := S910.grow n916 e919 h921 fr922
    obtain ⟨g927, hw⟩ := cW_grd hw
    have h928 := (e919 _ _ (e906 _ _ h901))
    refine ⟨_, rfl, _, rfl, _, _, _, _, rfl, rfl, (SqL.of h928), (atI_map g927), _, _, rfl, rfl, _, rfl, (by show 3 ≤ sizeLine; decide), fun p929 n930 => ?_⟩
    generalize g931 : upd H918 p929 _ = H932
    obtain ⟨e933, h934⟩ := gen_new n930 g931
    have h935 : H932 p929 = some (.tup [V.int (0), V.int (((-1) - (itD (v809) (4)))), V.int ((itD (v809) (2)))]) := h934
    have fr936 := S923.free n930
    obtain ⟨G938, eG939, hg940, S937⟩ := S923.grow n930 e933 h935 fr936
    obtain ⟨g941, hw⟩ := cW_grd hw
    have h942 := (e933 _ _ h928)
    refine ⟨_, rfl, _, _, _, _, rfl, rfl, (SqL.of h942), (atI_map g941), _, _, rfl, rfl, (by show 3 ≤ sizeLine; decide), fun p943 n944 => ?_⟩
    generalize g945 : upd H932 p943 _ = H946
    obtain ⟨e947, h948⟩ := gen_new n944 g945
    have h949 : H946 p943 = some (.tup [V.int (0), V.int (0), V.int ((65 + (itD (v809) (4))))]) := h948
    have fr950 := S937.free n944
    obtain ⟨G952, eG953, hg954, S951⟩ := S937.grow n944 e947 h949 fr950
    obtain ⟨g955, hw⟩ := cW_grd hw
    have h956 := (e947 _ _ h942)
    refine ⟨_, rfl, _, rfl, _, _, _, _, rfl, rfl, (SqL.of h956), (atI_map g955), _, _, rfl, rfl, (by show 3 ≤ sizeLine; decide), fun p957 n958 => ?_⟩
    generalize g959 : upd H946 p957 _ = H960
    obtain ⟨e961, h962⟩ := gen_new n958 g959
    have h963 : H960 p957 = some (.tup [V.int (0), V.int (0), V.int (((-1) - (itD (v809) (4))))]) := h962
    have fr964 := S951.free n958
    obtain ⟨G966, eG967, hg968, S965⟩ := S951.grow n958 e961 h963 fr964
    refine ⟨(by show 7 ≤ sizeLine; decide), fun p969 n970 => ?_⟩
    generalize g971 : upd H960 p969 _ = H972
    obtain ⟨e973, h974⟩ := gen_new n970 g971
    have h975 : H972 p969 = some (.lst ([V.ref p874, V.ref p887, V.ref p902, V.ref p915, V.ref p929, V.ref p943, V.ref p957])) := h974
    have fr976 := S965.free n970
    have S977 := S965.new n970 e973 h975 fr976
    have d978 : RpAll G966 ([V.ref p874, V.ref p887, V.ref p902, V.ref p915, V.ref p929, V.ref p943, V.ref p957]) (([(0, ((1 * 2 ^ Int.toNat ((itD (v809) (2)))) + (itD (v809) (4))), (itD (v809) (2))), (0, (1 * 2 ^ Int.toNat (64)), 64), (0, ((1 * 2 ^ Int.toNat (64)) + (itD (v809) (4))), 64), (0, (1 * 2 ^ Int.toNat ((itD (v809) (2)))), (itD (v809) (2))), (0, ((-1) - (itD (v809) (4))), (itD (v809) (2))), (0, 0, (65 + (itD (v809) (4)))), (0, 0, ((-1) - (itD (v809) (4))))] : (List (Int × Int × Int))).map (encT3 PyData.int PyData.int PyData.int)) := (RpAll.cons (rp_mk3 (eG967 _ _ (eG953 _ _ (eG939 _ _ (eG925 _ _ (eG912 _ _ (eG897 _ _ hg885)))))) (.int _) (.int _) (.int _)) (RpAll.cons (rp_mk3 (eG967 _ _ (eG953 _ _ (eG939 _ _ (eG925 _ _ (eG912 _ _ hg898))))) (.int _) (.int _) (.int _)) (RpAll.cons (rp_mk3 (eG967 _ _ (eG953 _ _ (eG939 _ _ (eG925 _ _ hg913)))) (.int _) (.int _) (.int _)) (RpAll.cons (rp_mk3 (eG967 _ _ (eG953 _ _ (eG939 _ _ hg926))) (.int _) (.int _) (.int _)) (RpAll.cons (rp_mk3 (eG967 _ _ (eG953 _ _ hg940)) (.int _) (.int _) (.int _)) (RpAll.cons (rp_mk3 (eG967 _ _ hg954) (.int _) (.int _) (.int _)) (RpAll.cons (rp_mk3 hg968 (.int _) (.int _) (.int _)) RpAll.nil)))))))
    obtain ⟨K984, hK985, hw⟩ := cW_push hw
    refine ⟨_, rfl, ⟨_, (SqL.of h975)⟩, for_list (K := K) (a := p969) (xs := [V.ref p874, V.ref p887, V.ref p902, V.ref p915, V.ref p929, V.ref p943, V.ref p957]) (fun i σ H' => ∃ (writer_986 : St_BitWriter) (u987 : Option V) (G' : Hp), σ = [some (V.ref a_script), some (V.ref p812), some (V.ref x818), some (V.int ((itD (v809) (0)))), some (V.ref p847), some (V.int ((itD (v809) (2)))), u987, none, none, none, none, none, none, none] ∧ Same G966 G' ∧ Sep [] H H G' H' [p812, x818, l830, p847, p969] ∧ H' p812 = some (.lst ((v809 : (List Int)).map V.int)) ∧ H' x818 = some (.ins AD.c_BitWriter dx819 [("_full", V.ref l830), ("_rest", V.int (writer_986.rest)), ("_rest_bits", V.int (writer_986.bits))]) ∧ H' l830 = some (.lst ((writer_986.full : (List Int)).map V.int)) ∧ H' p847 = some (.lst ((v844 : (List Int)).map V.int)) ∧ H' p969 = some (.lst ([V.ref p874, V.ref p887, V.ref p902, V.ref p915, V.ref p929, V.ref p943, V.ref p957])) ∧ cW (forR (List.drop i ([(0, ((1 * 2 ^ Int.toNat ((itD (v809) (2)))) + (itD (v809) (4))), (itD (v809) (2))), (0, (1 * 2 ^ Int.toNat (64)), 64), (0, ((1 * 2 ^ Int.toNat (64)) + (itD (v809) (4))), 64), (0, (1 * 2 ^ Int.toNat ((itD (v809) (2)))), (itD (v809) (2))), (0, ((-1) - (itD (v809) (4))), (itD (v809) (2))), (0, 0, (65 + (itD (v809) (4)))), (0, 0, ((-1) - (itD (v809) (4))))])) writer_986 (fun s x => F_law_b1  s x)) K984 EE) ?_ ?_ ?_ ?_⟩
    · have h988 := (e973 _ _ (e961 _ _ h956))
      have h989 := (e973 _ _ (e961 _ _ (e947 _ _ (e933 _ _ (e919 _ _ (e906 _ _ (e891 _ _ (e878 _ _ h863))))))))
      have h990 := (e973 _ _ (e961 _ _ (e947 _ _ (e933 _ _ (e919 _ _ (e906 _ _ (e891 _ _ (e878 _ _ h864))))))))
      have h991 := (e973 _ _ (e961 _ _ (e947 _ _ (e933 _ _ (e919 _ _ (e906 _ _ (e891 _ _ (e878 _ _ (x861 _ _ h850 (ni2 (ne_of_none h833 n848).symm (ne_of_none h835 n848).symm))))))))))
      exact ⟨(v859), _, _, rfl, (Same.refl _), (S977.sub (all_cons (.tail _ (.tail _ (.tail _ (.tail _ (.head _))))) (all_cons (.tail _ (.tail _ (.tail _ (.head _)))) (all_cons (.tail _ (.tail _ (.head _))) (all_cons (.tail _ (.head _)) (all_cons (.head _) all_nil)))))), h988, h989, h990, h991, h975, hw⟩
    · intro i σ H992 _ hw
      obtain ⟨writer_986, u987, G999, rfl, eG1000, S993, h994, h995, h996, h997, h998, hw⟩ := hw
      exact (SqL.of h998)
    · intro i x σ H1001 hj hw
      obtain ⟨writer_986, u987, G1008, rfl, eG1009, S1002, h1003, h1004, h1005, h1006, h1007, hw⟩ := hw
      obtain ⟨x1010, hx, r1011⟩ := RpAll.get (RpAll.mono eG1009 d978) hj
      obtain ⟨a1012, v1014, v1015, v1016, rfl, h1013, r1017, r1018, r1019⟩ := rp_tup3 r1011
      obtain rfl := rp_int r1017
      obtain rfl := rp_int r1018
      obtain rfl := rp_int r1019
      have hw := cW_forR hx hw
      have hw : cW (F_law_b1  (writer_986) (x1010)) _ EE := hw
      unfold F_law_b1 at hw
      obtain ⟨K1021, hK1022, hw⟩ := cW_name hw
      refine ⟨_, rfl, _, rfl, _, _, _, _, rfl, rfl, (SqT.of (S1002.sG _ _ h1013)), rfl, _, rfl, _, _, _, _, rfl, rfl, (SqT.of (S1002.sG _ _ h1013)), rfl, _, rfl, _, _, _, _, rfl, rfl, (SqT.of (S1002.sG _ _ h1013)), rfl, rfl, rfl, G1008, _, _, _, writer_986, _, _, _, rfl, S1002.sG, (S1002.gno (all_cons (.tail _ (.head _)) (all_cons (.tail _ (.tail _ (.head _))) all_nil))), h1004, h1005, cW_call hw (fun v1024 hw H1025 x1026 h1028 h1029  => ?_) (fun e he => (hE e he).elim)⟩
      have S1027 := S1002.mut x1026 (all_cons (.tail _ (.head _)) (all_cons (.tail _ (.tail _ (.head _))) all_nil)) (all_cons (some_ne h1028) (all_cons (some_ne h1029) all_nil))
      refine ⟨_, rfl, ?_⟩
      refine iteBN (fun c1034 => ?_) (fun c1034 => ?_)
      · have hw := cW_negB c1034 hw
        have hw := cW_ok hw
        have hw := hK1022 (.rt _) hw
        have hw := hK985 (.rt _) hw
        have hw := cW_ok hw
        exact eq_bl (k _) (hK0 _ hw).symm
      · have hw := cW_pos c1034 hw
        have hw := cW_ok hw
        have hw := hK1022 _ hw
        have h1035 := (x1026 _ _ h1003 (ni2 (ne_of_none h815 n820) (ne_of_none (e825 _ _ h815) n836)))
        have h1036 := (x1026 _ _ h1006 (ni2 (ne_of_none h833 n848).symm (ne_of_none h835 n848).symm))
        have h1037 := (x1026 _ _ h1007 (ni2 (ne_of_none (e961 _ _ (e947 _ _ (e933 _ _ (e919 _ _ (e906 _ _ (e891 _ _ (e878 _ _ h863))))))) n970).symm (ne_of_none (e961 _ _ (e947 _ _ (e933 _ _ (e919 _ _ (e906 _ _ (e891 _ _ (e878 _ _ h864))))))) n970).symm))
        exact ⟨(v1024.2), _, _, rfl, eG1009, S1027, h1035, h1028, h1029, h1036, h1037, hw⟩
    · intro σ H1038 hw
      obtain ⟨writer_986, u987, G1045, rfl, eG1046, S1039, h1040, h1041, h1042, h1043, h1044, hw⟩ := hw
      have hw := cW_aftgo (hK985 _ (cW_forR0 (by rw [(RpAll.mono eG1046 d978).len, List.length_map]) hw))
      have hw : cW (F_law_r1 (script') (v809) ((itD (v809) (0))) (v844) ((itD (v809) (2))) (writer_986)) _ EE := hw
      unfold F_law_r1 at hw
      obtain ⟨g1048, hw⟩ := cW_grd hw
      refine ⟨_, rfl, _, rfl, _, _, _, _, rfl, rfl, (SqL.of h1040), (atI_map g1048), _, _, rfl, rfl, (by show 2 ≤ sizeLine; decide), fun p1049 n1050 => ?_⟩
      generalize g1051 : upd H1038 p1049 _ = H1052
      obtain ⟨e1053, h1054⟩ := gen_new n1050 g1051
      have h1055 : H1052 p1049 = some (.tup [V.int (1), V.int (((-1) - (itD (v809) (4))))]) := h1054
      have fr1056 := S1039.free n1050
      obtain ⟨G1058, eG1059, hg1060, S1057⟩ := S1039.grow n1050 e1053 h1055 fr1056
      obtain ⟨g1061, hw⟩ := cW_grd hw
      have h1062 := (e1053 _ _ h1040)
      refine ⟨_, _, rfl, rfl, ⟨by decide, by decide, by decide⟩, _, _, rfl, rfl, _, rfl, _, _, _, _, rfl, rfl, (SqL.of h1062), (atI_map g1061), _, _, rfl, rfl, (by show 2 ≤ sizeLine; decide), fun p1063 n1064 => ?_⟩
      generalize g1065 : upd H1052 p1063 _ = H1066
      obtain ⟨e1067, h1068⟩ := gen_new n1064 g1065
      have h1069 : H1066 p1063 = some (.tup [V.int (1), V.int (((4294967296 + 1) + (itD (v809) (4))))]) := h1068
      have fr1070 := S1057.free n1064
      obtain ⟨G1072, eG1073, hg1074, S1071⟩ := S1057.grow n1064 e1067 h1069 fr1070
      obtain ⟨g1075, hw⟩ := cW_grd hw
      have h1076 := (e1067 _ _ h1062)
      refine ⟨_, _, rfl, rfl, ⟨by decide, by decide, by decide⟩, _, _, rfl, rfl, _, rfl, _, _, _, _, rfl, rfl, (SqL.of h1076), (atI_map g1075), _, _, rfl, rfl, (by show 2 ≤ sizeLine; decide), fun p1077 n1078 => ?_⟩
      generalize g1079 : upd H1066 p1077 _ = H1080
      obtain ⟨e1081, h1082⟩ := gen_new n1078 g1079
      have h1083 : H1080 p1077 = some (.tup [V.int (2), V.int (((2147483648 + 1) + (itD (v809) (4))))]) := h1082
      have fr1084 := S1071.free n1078
      obtain ⟨G1086, eG1087, hg1088, S1085⟩ := S1071.grow n1078 e1081 h1083 fr1084
      obtain ⟨g1089, hw⟩ := cW_grd hw
      have h1090 := (e1081 _ _ h1076)
      refine ⟨_, _, rfl, rfl, ⟨by decide, by decide, by decide⟩, _, rfl, _, _, rfl, rfl, _, rfl, _, _, _, _, rfl, rfl, (SqL.of h1090), (atI_map g1089), _, _, rfl, rfl, (by show 2 ≤ sizeLine; decide), fun p1091 n1092 => ?_⟩
      generalize g1093 : upd H1080 p1091 _ = H1094
      obtain ⟨e1095, h1096⟩ := gen_new n1092 g1093
      have h1097 : H1094 p1091 = some (.tup [V.int (2), V.int ((((-2147483648) - 1) - (itD (v809) (4))))]) := h1096
      have fr1098 := S1085.free n1092
      obtain ⟨G1100, eG1101, hg1102, S1099⟩ := S1085.grow n1092 e1095 h1097 fr1098
      refine ⟨(by show 4 ≤ sizeLine; decide), fun p1103 n1104 => ?_⟩
      generalize g1105 : upd H1094 p1103 _ = H1106
      obtain ⟨e1107, h1108⟩ := gen_new n1104 g1105
      have h1109 : H1106 p1103 = some (.lst ([V.ref p1049, V.ref p1063, V.ref p1077, V.ref p1091])) := h1108
      have fr1110 := S1099.free n1104
      have S1111 := S1099.new n1104 e1107 h1109 fr1110
      have d1112 : RpAll G1100 ([V.ref p1049, V.ref p1063, V.ref p1077, V.ref p1091]) (([(1, ((-1) - (itD (v809) (4)))), (1, ((4294967296 + 1) + (itD (v809) (4)))), (2, ((2147483648 + 1) + (itD (v809) (4)))), (2, (((-2147483648) - 1) - (itD (v809) (4))))] : (List (Int × Int))).map (encT2 PyData.int PyData.int)) := (RpAll.cons (rp_mk2 (eG1101 _ _ (eG1087 _ _ (eG1073 _ _ hg1060))) (.int _) (.int _)) (RpAll.cons (rp_mk2 (eG1101 _ _ (eG1087 _ _ hg1074)) (.int _) (.int _)) (RpAll.cons (rp_mk2 (eG1101 _ _ hg1088) (.int _) (.int _)) (RpAll.cons (rp_mk2 hg1102 (.int _) (.int _)) RpAll.nil))))
      obtain ⟨K1118, hK1119, hw⟩ := cW_push hw
      refine ⟨_, rfl, ⟨_, (SqL.of h1109)⟩, for_list (K := K) (a := p1103) (xs := [V.ref p1049, V.ref p1063, V.ref p1077, V.ref p1091]) (fun i σ H' => ∃ (writer_1120 : St_BitWriter) (u1121 : Option V) (G' : Hp), σ = [some (V.ref a_script), some (V.ref p812), some (V.ref x818), some (V.int ((itD (v809) (0)))), some (V.ref p847), some (V.int ((itD (v809) (2)))), u1121, none, none, none, none, none, none, none] ∧ Same G1100 G' ∧ Sep [] H H G' H' [p812, x818, l830, p847, p1103] ∧ H' p812 = some (.lst ((v809 : (List Int)).map V.int)) ∧ H' x818 = some (.ins AD.c_BitWriter dx819 [("_full", V.ref l830), ("_rest", V.int (writer_1120.rest)), ("_rest_bits", V.int (writer_1120.bits))]) ∧ H' l830 = some (.lst ((writer_1120.full : (List Int)).map V.int)) ∧ H' p847 = some (.lst ((v844 : (List Int)).map V.int)) ∧ H' p1103 = some (.lst ([V.ref p1049, V.ref p1063, V.ref p1077, V.ref p1091])) ∧ cW (forR (List.drop i ([(1, ((-1) - (itD (v809) (4)))), (1, ((4294967296 + 1) + (itD (v809) (4)))), (2, ((2147483648 + 1) + (itD (v809) (4)))), (2, (((-2147483648) - 1) - (itD (v809) (4))))])) writer_1120 (fun s x => F_law_b2  s x)) K1118 EE) ?_ ?_ ?_ ?_⟩
      · have h1122 := (e1107 _ _ (e1095 _ _ h1090))
        have h1123 := (e1107 _ _ (e1095 _ _ (e1081 _ _ (e1067 _ _ (e1053 _ _ h1041)))))
        have h1124 := (e1107 _ _ (e1095 _ _ (e1081 _ _ (e1067 _ _ (e1053 _ _ h1042)))))
        have h1125 := (e1107 _ _ (e1095 _ _ (e1081 _ _ (e1067 _ _ (e1053 _ _ h1043)))))
        exact ⟨(writer_986), _, _, rfl, (Same.refl _), (S1111.sub (all_cons (.tail _ (.head _)) (all_cons (.tail _ (.tail _ (.head _))) (all_cons (.tail _ (.tail _ (.tail _ (.head _)))) (all_cons (.tail _ (.tail _ (.tail _ (.tail _ (.head _))))) (all_cons (.head _) all_nil)))))), h1122, h1123, h1124, h1125, h1109, hw⟩
      · intro i σ H1126 _ hw
        obtain ⟨writer_1120, u1121, G1133, rfl, eG1134, S1127, h1128, h1129, h1130, h1131, h1132, hw⟩ := hw
        exact (SqL.of h1132)
      · intro i x σ H1135 hj hw
        obtain ⟨writer_1120, u1121, G1142, rfl, eG1143, S1136, h1137, h1138, h1139, h1140, h1141, hw⟩ := hw
        obtain ⟨x1144, hx, r1145⟩ := RpAll.get (RpAll.mono eG1143 d1112) hj
        obtain ⟨a1146, v1148, v1149, rfl, h1147, r1150, r1151⟩ := rp_tup2 r1145
        obtain rfl := rp_int r1150
        obtain rfl := rp_int r1151
        have hw := cW_forR hx hw
        have hw : cW (F_law_b2  (writer_1120) (x1144)) _ EE := hw
        unfold F_law_b2 at hw
        obtain ⟨K1153, hK1154, hw⟩ := cW_name hw
        refine ⟨_, rfl, _, rfl, _, _, _, _, rfl, rfl, (SqT.of (S1136.sG _ _ h1147)), rfl, _, rfl, _, _, _, _, rfl, rfl, (SqT.of (S1136.sG _ _ h1147)), rfl, rfl, rfl, G1142, _, _, _, writer_1120, _, _, _, rfl, S1136.sG, (S1136.gno (all_cons (.tail _ (.head _)) (all_cons (.tail _ (.tail _ (.head _))) all_nil))), h1138, h1139, cW_call hw (fun v1156 hw H1157 x1158 h1160 h1161  => ?_) (fun e he => (hE e he).elim)⟩
        have S1159 := S1136.mut x1158 (all_cons (.tail _ (.head _)) (all_cons (.tail _ (.tail _ (.head _))) all_nil)) (all_cons (some_ne h1160) (all_cons (some_ne h1161) all_nil))
        refine ⟨_, rfl, ?_⟩
        refine iteBN (fun c1166 => ?_) (fun c1166 => ?_)
        · have hw := cW_negB c1166 hw
          have hw := cW_ok hw
          have hw := hK1154 (.rt _) hw
          have hw := hK1119 (.rt _) hw
          have hw := cW_ok hw
          exact eq_bl (k _) (hK0 _ hw).symm
        · have hw := cW_pos c1166 hw
          have hw := cW_ok hw
          have hw := hK1154 _ hw
          have h1167 := (x1158 _ _ h1137 (ni2 (ne_of_none h815 n820) (ne_of_none (e825 _ _ h815) n836)))
          have h1168 := (x1158 _ _ h1140 (ni2 (ne_of_none h833 n848).symm (ne_of_none h835 n848).symm))
          have h1169 := (x1158 _ _ h1141 (ni2 (ne_of_none (e1095 _ _ (e1081 _ _ (e1067 _ _ (e1053 _ _ h1041)))) n1104).symm (ne_of_none (e1095 _ _ (e1081 _ _ (e1067 _ _ (e1053 _ _ h1042)))) n1104).symm))
          exact ⟨(v1156.2), _, _, rfl, eG1143, S1159, h1167, h1160, h1161, h1168, h1169, hw⟩
      · intro σ H1170 hw
        obtain ⟨writer_1120, u1121, G1177, rfl, eG1178, S1171, h1172, h1173, h1174, h1175, h1176, hw⟩ := hw
        have hw := cW_aftgo (hK1119 _ (cW_forR0 (by rw [(RpAll.mono eG1178 d1112).len, List.length_map]) hw))
        have hw : cW (F_law_r2 (script') (v809) ((itD (v809) (0))) (v844) ((itD (v809) (2))) (writer_1120)) _ EE := hw
        unfold F_law_r2 at hw
        refine ⟨_, rfl, _, _, _, rfl, h1173, rfl, rfl, rfl, G1177, _, _, _, writer_1120, rfl, S1171.sG, (hide_nil h1173), (hide_nil h1174), cW_call hw (fun v1180 hw p1183 H1181 n1184 e1182 h1185 => ?_) (fun e he => (hE e he).elim)⟩
        have h1186 : H1181 p1183 = some (.lst ((v1180 : (List Int)).map V.int)) := h1185
        have fr1187 := S1171.free n1184
        have S1188 := S1171.new n1184 e1182 h1186 fr1187
        have h1189 := (e1182 _ _ h1175)
        refine ⟨_, rfl, _, rfl, rfl, rfl, G1177, _, _, rfl, S1188.sG, (hide_nil h1189), cW_call hw (fun v1190 hw p1193 H1191 n1194 e1192 h1195 => ?_) (fun e he => (hE e he).elim)⟩
        have h1196 : H1191 p1193 = some (.lst ((v1190 : (List Int)).map V.int)) := h1195
        have fr1197 := S1188.free n1194
        have S1198 := S1188.new n1194 e1192 h1196 fr1197
        have h1199 := (e1192 _ _ h1186)
        refine ⟨_, _, (rp_mk_ints h1199), (rp_mk_ints h1196), _, rfl, ?_⟩
        refine iteN (fun c1200 => ?_) (fun c1200 => ?_)
        · have hw := cW_neg c1200 hw
          refine iteT ?_
          have hw := cW_ok hw
          exact eq_bl (k _) (hK0 _ hw).symm
        · have hw := cW_pos c1200 hw
          have h1201 := (e1192 _ _ (e1182 _ _ h1173))
          have h1202 := (e1192 _ _ (e1182 _ _ h1174))
          refine ⟨_, rfl, _, _, _, rfl, h1201, G1177, _, _, _, writer_1120, rfl, S1198.sG, (hide_nil h1201), (hide_nil h1202), cW_callN hw (fun v1203 hw H1204 e1205 => ?_) trivial⟩
          have S1206 := S1198.same e1205
          refine ⟨_, rfl, _, _, rfl, rfl, _, rfl, ?_⟩
          refine iteN (fun c1207 => ?_) (fun c1207 => ?_)
          · have hw := cW_neg c1207 hw
            have hw := cW_ok hw
            exact eq_bl (k _) (hK0 _ hw).symm
          · have hw := cW_pos c1207 hw
            refine ⟨_, rfl, rfl, rfl, G1177, _, _, _, rfl, S1206.sG, (S1206.b0.seq q_script), cW_call hw (fun v1208 hw => ?_) (fun e he => (hE e he).elim)⟩
            refine ⟨(by show 5 ≤ sizeLine; decide), fun p1209 n1210 => ?_⟩
            generalize g1211 : upd H1204 p1209 _ = H1212
            obtain ⟨e1213, h1214⟩ := gen_new n1210 g1211
            have h1215 : H1212 p1209 = some (.lst (([5, 256, 256, 256, 256] : (List Int)).map V.int)) := h1214
            have fr1216 := S1206.free n1210
            have S1217 := S1206.new n1210 e1213 h1215 fr1216
            refine ⟨rfl, rfl, G1177, _, _, _, rfl, S1217.sG, (hide_nil h1215), cW_call hw (fun v1218 hw p1221 H1219 n1222 e1220 h1223 => ?_) (fun e he => (hE e he).elim)⟩
            have h1224 : H1219 p1221 = some (.lst ((v1218 : (List Int)).map V.int)) := h1223
            have fr1225 := S1217.free n1222
            have S1226 := S1217.new n1222 e1220 h1224 fr1225
            obtain ⟨g1227, hw⟩ := cW_grd hw
            refine ⟨_, rfl, _, rfl, _, rfl, _, _, _, _, rfl, rfl, (SqL.of h1224), (atI_map g1227), _, _, rfl, rfl, _, rfl, _, _, rfl, (SqL.of h1224), fun p1228 n1229 => ?_⟩
            generalize g1230 : upd H1219 p1228 _ = H1231
            obtain ⟨e1232, h1233⟩ := gen_new n1229 g1230
            have h1234 : H1231 p1228 = some (.lst ((cutL (v1218) (some (1)) (some ((1 + (itD (v1218) (0))))) : (List Int)).map V.int)) := cut_map h1233
            have fr1235 := S1226.free n1229
            have S1236 := S1226.new n1229 e1232 h1234 fr1235
            refine ⟨(by show 1 ≤ sizeLine; decide), fun p1237 n1238 => ?_⟩
            generalize g1239 : upd H1231 p1237 _ = H1240
            obtain ⟨e1241, h1242⟩ := gen_new n1238 g1239
            have h1243 : H1240 p1237 = some (.lst (([0] : (List Int)).map V.int)) := h1242
            have fr1244 := S1236.free n1238
            have S1245 := S1236.new n1238 e1241 h1243 fr1244
            obtain ⟨g1246, hw⟩ := cW_grd hw
            have h1247 := (e1241 _ _ h1234)
            refine ⟨_, _, _, _, rfl, rfl, h1247, h1243, (cat_lenM g1246), fun p1248 n1249 => ?_⟩
            generalize g1250 : upd H1240 p1248 _ = H1251
            obtain ⟨e1252, h1253⟩ := gen_new n1249 g1250
            have h1254 : H1251 p1248 = some (.lst (((cutL (v1218) (some (1)) (some ((1 + (itD (v1218) (0)))))) ++ ([0]) : (List Int)).map V.int)) := cat_map h1253
            have fr1255 := S1245.free n1249
            have S1256 := S1245.new n1249 e1252 h1254 fr1255
            refine ⟨rfl, rfl, G1177, _, _, rfl, S1256.sG, (hide_nil h1254), cW_call hw (fun v1257 hw H1258 e1259 => ?_) (fun e he => (hE e he).elim)⟩
            have S1260 := S1256.same e1259
            refine ⟨_, rfl, ?_⟩
            refine iteBN (fun c1261 => ?_) (fun c1261 => ?_)
            · have hw := cW_negB c1261 hw
              refine iteT ?_
              have hw := cW_ok hw
              exact eq_bl (k _) (hK0 _ hw).symm
            · have hw := cW_pos c1261 hw
              refine ⟨(by show 0 ≤ sizeLine; decide), fun p1262 n1263 => ?_⟩
              generalize g1264 : upd H1258 p1262 _ = H1265
              obtain ⟨e1266, h1267⟩ := gen_new n1263 g1264
              have h1268 : H1265 p1262 = some (.lst ((([] : (List Int)) : (List Int)).map V.int)) := h1267
              have fr1269 := S1260.free n1263
              have S1270 := S1260.new n1263 e1266 h1268 fr1269
              refine ⟨rfl, rfl, G1177, _, _, rfl, S1270.sG, (hide_nil h1268), cW_call hw (fun v1271 hw H1272 e1273 => ?_) (fun e he => (hE e he).elim)⟩
              have S1274 := S1270.same e1273
              refine ⟨_, rfl, ?_⟩
              refine iteBN (fun c1275 => ?_) (fun c1275 => ?_)
              · have hw := cW_negB c1275 hw
                have hw := cW_ok hw
                exact eq_bl (k _) (hK0 _ hw).symm
              · have hw := cW_pos c1275 hw
                refine ⟨_, rfl, rfl, rfl, fun x1276 dx1277 n1278 n1279 n1280 => ?_⟩
                generalize g1281 : upd (upd H1272 dx1277 _) x1276 _ = H1282
                obtain ⟨e1283, h1284⟩ := gen_obj n1278 n1279 n1280 g1281
                have fr1285 := S1274.free n1278
                have S1286 := S1274.new n1278 e1283 h1284 fr1285
                have h1287 := (e1283 _ _ (e1273 _ _ (e1266 _ _ (e1259 _ _ (e1252 _ _ (e1241 _ _ (e1232 _ _ (e1220 _ _ (e1213 _ _ (e1205 _ _ h1199))))))))))
                refine ⟨G1177, _, _, _, _, rfl, S1286.sG, (S1286.gno (all_cons (.head _) all_nil)), h1284, ((hideL_out (ni1 (ne_of_none (e1273 _ _ (e1266 _ _ (e1259 _ _ (e1252 _ _ (e1241 _ _ (e1232 _ _ (e1220 _ _ (e1213 _ _ (e1205 _ _ h1199))))))))) n1278))).trans h1287), cW_call hw (fun v1288 hw H1290 l1289 x1291 n1295 h1292 h1294 => ⟨rfl, ?_⟩) (fun e he => (hE e he).elim)⟩
                have fr1296 := S1286.free n1295
                have S1293 : Sep _ _ _ _ H1290 [l1289, x1276, p1262, p1248, p1237, p1228, p1221, p1209, p1193, p1183, p812, x818, l830, p847, p1103] := Sep.init S1286 x1291 (.head _) h1292 [l1289] (all_cons ⟨n1295, some_ne h1294, fr1296⟩ all_nil)
                obtain ⟨g1297, hw⟩ := cW_grd hw
                have h1298 := ((SameXs.of x1291) _ _ (e1283 _ _ (e1273 _ _ (e1266 _ _ (e1259 _ _ (e1252 _ _ (e1241 _ _ (e1232 _ _ (e1220 _ _ (e1213 _ _ (e1205 _ _ (e1192 _ _ (e1182 _ _ h1172)))))))))))) (ni1 (ne_of_none (e1273 _ _ (e1266 _ _ (e1259 _ _ (e1252 _ _ (e1241 _ _ (e1232 _ _ (e1220 _ _ (e1213 _ _ (e1205 _ _ (e1192 _ _ (e1182 _ _ h1172))))))))))) n1278)))
                refine ⟨_, rfl, _, _, _, _, rfl, rfl, (SqL.of h1298), (atI_map g1297), .inl ⟨_, rfl, ?_⟩⟩
                obtain ⟨g1299, hw⟩ := cW_grd hw
                refine ⟨_, rfl, _, _, rfl, rfl, _, _, rfl, rfl, g1299, ?_⟩
                have hw := cW_bnd hw
                refine ⟨_, rfl, _, _, _, rfl, h1292, rfl, _, rfl, rfl, rfl, G1177, _, _, _, v1288, _, rfl, S1293.sG, (S1293.gno (all_cons (.tail _ (.head _)) (all_cons (.head _) all_nil))), h1292, h1294, cW_call hw (fun v1301 hw H1302 x1303 h1305 h1306  => ?_) (fun e he => (hE e he).elim)⟩
                have S1304 := S1293.mut x1303 (all_cons (.tail _ (.head _)) (all_cons (.head _) all_nil)) (all_cons (some_ne h1305) (all_cons (some_ne h1306) all_nil))
                obtain ⟨g1311, hw⟩ := cW_grd hw
                obtain ⟨K1315, hK1316, hw⟩ := cW_push hw
                refine ⟨_, rfl, _, rfl, g1311.1, g1311.2, fun D1317 n1318 => lc_range (lo := 0) (n := Int.toNat (((itD (v809) (5)) % ((itD (v809) (0)) + 1)))) (fun i1 H' => ∃ (G' : Hp) (acc1320 : (List Int)), Same G1177 G' ∧ Sep [] H H G' H' [D1317, p812, x818, l830, p847, p1183, p1221, x1276, l1289] ∧ H' p812 = some (.lst ((v809 : (List Int)).map V.int)) ∧ H' x818 = some (.ins AD.c_BitWriter dx819 [("_full", V.ref l830), ("_rest", V.int (writer_1120.rest)), ("_rest_bits", V.int (writer_1120.bits))]) ∧ H' l830 = some (.lst ((writer_1120.full : (List Int)).map V.int)) ∧ H' p847 = some (.lst ((v844 : (List Int)).map V.int)) ∧ H' p1183 = some (.lst ((v1180 : (List Int)).map V.int)) ∧ H' p1221 = some (.lst ((v1218 : (List Int)).map V.int)) ∧ H' x1276 = some (.ins AD.c_BitReader dx1277 [("_octets", V.ref l1289), ("_place", V.int (v1301.2.place)), ("_end", V.int (v1301.2.stop))]) ∧ H' l1289 = some (.lst ((v1301.2.octs : (List Int)).map V.int)) ∧ H' D1317 = some (.lst ((acc1320 : (List Int)).map V.int)) ∧ Same H1302 H' ∧ cW (mapA (List.drop i1 (rng (0) (Int.toNat (((itD (v809) (5)) % ((itD (v809) (0)) + 1)))))) acc1320 (fun x => noEr (F_law_c3 (v844) (((itD (v809) (5)) % ((itD (v809) (0)) + 1))) x))) K1315 EE) ?_ ?_ ?_⟩
                · generalize g1322 : upd H1302 D1317 _ = H1323
                  obtain ⟨e1324, h1325⟩ := gen_new n1318 g1322
                  have fr1326 := S1304.free n1318
                  have S1327 := S1304.new n1318 e1324 h1325 fr1326
                  have h1328 := (e1324 _ _ (x1303 _ _ h1298 (ni2 (ne_of_none (e1273 _ _ (e1266 _ _ (e1259 _ _ (e1252 _ _ (e1241 _ _ (e1232 _ _ (e1220 _ _ (e1213 _ _ (e1205 _ _ (e1192 _ _ (e1182 _ _ h1172))))))))))) n1278) (ne_of_none (e1283 _ _ (e1273 _ _ (e1266 _ _ (e1259 _ _ (e1252 _ _ (e1241 _ _ (e1232 _ _ (e1220 _ _ (e1213 _ _ (e1205 _ _ (e1192 _ _ (e1182 _ _ h1172)))))))))))) n1295))))
                  have h1329 := (e1324 _ _ (x1303 _ _ ((SameXs.of x1291) _ _ (e1283 _ _ (e1273 _ _ (e1266 _ _ (e1259 _ _ (e1252 _ _ (e1241 _ _ (e1232 _ _ (e1220 _ _ (e1213 _ _ (e1205 _ _ h1201)))))))))) (ni1 (ne_of_none (e1273 _ _ (e1266 _ _ (e1259 _ _ (e1252 _ _ (e1241 _ _ (e1232 _ _ (e1220 _ _ (e1213 _ _ (e1205 _ _ h1201))))))))) n1278))) (ni2 (ne_of_none (e1273 _ _ (e1266 _ _ (e1259 _ _ (e1252 _ _ (e1241 _ _ (e1232 _ _ (e1220 _ _ (e1213 _ _ (e1205 _ _ h1201))))))))) n1278) (ne_of_none (e1283 _ _ (e1273 _ _ (e1266 _ _ (e1259 _ _ (e1252 _ _ (e1241 _ _ (e1232 _ _ (e1220 _ _ (e1213 _ _ (e1205 _ _ h1201)))))))))) n1295))))
                  have h1330 := (e1324 _ _ (x1303 _ _ ((SameXs.of x1291) _ _ (e1283 _ _ (e1273 _ _ (e1266 _ _ (e1259 _ _ (e1252 _ _ (e1241 _ _ (e1232 _ _ (e1220 _ _ (e1213 _ _ (e1205 _ _ h1202)))))))))) (ni1 (ne_of_none (e1273 _ _ (e1266 _ _ (e1259 _ _ (e1252 _ _ (e1241 _ _ (e1232 _ _ (e1220 _ _ (e1213 _ _ (e1205 _ _ h1202))))))))) n1278))) (ni2 (ne_of_none (e1273 _ _ (e1266 _ _ (e1259 _ _ (e1252 _ _ (e1241 _ _ (e1232 _ _ (e1220 _ _ (e1213 _ _ (e1205 _ _ h1202))))))))) n1278) (ne_of_none (e1283 _ _ (e1273 _ _ (e1266 _ _ (e1259 _ _ (e1252 _ _ (e1241 _ _ (e1232 _ _ (e1220 _ _ (e1213 _ _ (e1205 _ _ h1202)))))))))) n1295))))
                  have h1331 := (e1324 _ _ (x1303 _ _ ((SameXs.of x1291) _ _ (e1283 _ _ (e1273 _ _ (e1266 _ _ (e1259 _ _ (e1252 _ _ (e1241 _ _ (e1232 _ _ (e1220 _ _ (e1213 _ _ (e1205 _ _ (e1192 _ _ h1189))))))))))) (ni1 (ne_of_none (e1273 _ _ (e1266 _ _ (e1259 _ _ (e1252 _ _ (e1241 _ _ (e1232 _ _ (e1220 _ _ (e1213 _ _ (e1205 _ _ (e1192 _ _ h1189)))))))))) n1278))) (ni2 (ne_of_none (e1273 _ _ (e1266 _ _ (e1259 _ _ (e1252 _ _ (e1241 _ _ (e1232 _ _ (e1220 _ _ (e1213 _ _ (e1205 _ _ (e1192 _ _ h1189)))))))))) n1278) (ne_of_none (e1283 _ _ (e1273 _ _ (e1266 _ _ (e1259 _ _ (e1252 _ _ (e1241 _ _ (e1232 _ _ (e1220 _ _ (e1213 _ _ (e1205 _ _ (e1192 _ _ h1189))))))))))) n1295))))
                  have h1332 := (e1324 _ _ (x1303 _ _ ((SameXs.of x1291) _ _ h1287 (ni1 (ne_of_none (e1273 _ _ (e1266 _ _ (e1259 _ _ (e1252 _ _ (e1241 _ _ (e1232 _ _ (e1220 _ _ (e1213 _ _ (e1205 _ _ h1199))))))))) n1278))) (ni2 (ne_of_none (e1273 _ _ (e1266 _ _ (e1259 _ _ (e1252 _ _ (e1241 _ _ (e1232 _ _ (e1220 _ _ (e1213 _ _ (e1205 _ _ h1199))))))))) n1278) (ne_of_none h1287 n1295))))
                  have h1333 := (e1324 _ _ (x1303 _ _ ((SameXs.of x1291) _ _ (e1283 _ _ (e1273 _ _ (e1266 _ _ (e1259 _ _ (e1252 _ _ (e1241 _ _ (e1232 _ _ h1224))))))) (ni1 (ne_of_none (e1273 _ _ (e1266 _ _ (e1259 _ _ (e1252 _ _ (e1241 _ _ (e1232 _ _ h1224)))))) n1278))) (ni2 (ne_of_none (e1273 _ _ (e1266 _ _ (e1259 _ _ (e1252 _ _ (e1241 _ _ (e1232 _ _ h1224)))))) n1278) (ne_of_none (e1283 _ _ (e1273 _ _ (e1266 _ _ (e1259 _ _ (e1252 _ _ (e1241 _ _ (e1232 _ _ h1224))))))) n1295))))
                  have h1334 := (e1324 _ _ h1305)
                  have h1335 := (e1324 _ _ h1306)
                  exact ⟨_, [], Same.refl _, (S1327.sub (all_cons (.head _) (all_cons (.tail _ (.tail _ (.tail _ (.tail _ (.tail _ (.tail _ (.tail _ (.tail _ (.tail _ (.tail _ (.tail _ (.head _)))))))))))) (all_cons (.tail _ (.tail _ (.tail _ (.tail _ (.tail _ (.tail _ (.tail _ (.tail _ (.tail _ (.tail _ (.tail _ (.tail _ (.head _))))))))))))) (all_cons (.tail _ (.tail _ (.tail _ (.tail _ (.tail _ (.tail _ (.tail _ (.tail _ (.tail _ (.tail _ (.tail _ (.tail _ (.tail _ (.head _)))))))))))))) (all_cons (.tail _ (.tail _ (.tail _ (.tail _ (.tail _ (.tail _ (.tail _ (.tail _ (.tail _ (.tail _ (.tail _ (.tail _ (.tail _ (.tail _ (.head _))))))))))))))) (all_cons (.tail _ (.tail _ (.tail _ (.tail _ (.tail _ (.tail _ (.tail _ (.tail _ (.tail _ (.tail _ (.head _))))))))))) (all_cons (.tail _ (.tail _ (.tail _ (.tail _ (.tail _ (.tail _ (.tail _ (.head _)))))))) (all_cons (.tail _ (.tail _ (.head _))) (all_cons (.tail _ (.head _)) all_nil)))))))))), h1328, h1329, h1330, h1331, h1332, h1333, h1334, h1335, h1325, e1324, hw⟩
                · intro i1 H1336 hi hw
                  obtain ⟨G1339, acc1341, eG1340, S1337, h1348, h1349, h1350, h1351, h1352, h1353, h1354, h1355, h1338, eo1347, hw⟩ := hw
                  obtain ⟨z1356, hw⟩ := cW_mapA (rng_get hi) hw
                  generalize (0 + (i1 : Int)) = x1357 at hw ⊢
                  have hw := cW_noEr hw
                  have hw : cW (F_law_c3 (v844) (((itD (v809) (5)) % ((itD (v809) (0)) + 1))) (x1357)) _ (fun _ => False) := hw
                  unfold F_law_c3 at hw
                  refine ⟨rfl, ?_⟩
                  refine tyes_go ?_
                  obtain ⟨g1359, hw⟩ := cW_grd hw
                  obtain ⟨g1360, hw⟩ := cW_grd hw
                  refine ⟨_, rfl, _, rfl, _, _, _, _, rfl, rfl, (SqL.of h1351), (atI_map g1359), _, rfl, _, _, rfl, rfl, _, rfl, _, _, rfl, rfl, _, _, rfl, rfl, (shl_side g1360.1 g1360.2.1 g1360.2.2.1 g1360.2.2.2), _, h1338, (app_lenM z1356), ?_⟩
                  generalize g1361 : upd H1336 D1317 _ = H1362
                  obtain ⟨x1363, h1364⟩ := gen_mut g1361
                  have S1365 := S1337.mut1 x1363 (.head _) h1364
                  have hw := cW_ok hw
                  have h1366 := (x1363 _ _ h1348 (ne_of_none (x1303 _ _ h1298 (ni2 (ne_of_none (e1273 _ _ (e1266 _ _ (e1259 _ _ (e1252 _ _ (e1241 _ _ (e1232 _ _ (e1220 _ _ (e1213 _ _ (e1205 _ _ (e1192 _ _ (e1182 _ _ h1172))))))))))) n1278) (ne_of_none (e1283 _ _ (e1273 _ _ (e1266 _ _ (e1259 _ _ (e1252 _ _ (e1241 _ _ (e1232 _ _ (e1220 _ _ (e1213 _ _ (e1205 _ _ (e1192 _ _ (e1182 _ _ h1172)))))))))))) n1295))) n1318))
                  have h1367 := (x1363 _ _ h1349 (ne_of_none (x1303 _ _ ((SameXs.of x1291) _ _ (e1283 _ _ (e1273 _ _ (e1266 _ _ (e1259 _ _ (e1252 _ _ (e1241 _ _ (e1232 _ _ (e1220 _ _ (e1213 _ _ (e1205 _ _ h1201)))))))))) (ni1 (ne_of_none (e1273 _ _ (e1266 _ _ (e1259 _ _ (e1252 _ _ (e1241 _ _ (e1232 _ _ (e1220 _ _ (e1213 _ _ (e1205 _ _ h1201))))))))) n1278))) (ni2 (ne_of_none (e1273 _ _ (e1266 _ _ (e1259 _ _ (e1252 _ _ (e1241 _ _ (e1232 _ _ (e1220 _ _ (e1213 _ _ (e1205 _ _ h1201))))))))) n1278) (ne_of_none (e1283 _ _ (e1273 _ _ (e1266 _ _ (e1259 _ _ (e1252 _ _ (e1241 _ _ (e1232 _ _ (e1220 _ _ (e1213 _ _ (e1205 _ _ h1201)))))))))) n1295))) n1318))
                  have h1368 := (x1363 _ _ h1350 (ne_of_none (x1303 _ _ ((SameXs.of x1291) _ _ (e1283 _ _ (e1273 _ _ (e1266 _ _ (e1259 _ _ (e1252 _ _ (e1241 _ _ (e1232 _ _ (e1220 _ _ (e1213 _ _ (e1205 _ _ h1202)))))))))) (ni1 (ne_of_none (e1273 _ _ (e1266 _ _ (e1259 _ _ (e1252 _ _ (e1241 _ _ (e1232 _ _ (e1220 _ _ (e1213 _ _ (e1205 _ _ h1202))))))))) n1278))) (ni2 (ne_of_none (e1273 _ _ (e1266 _ _ (e1259 _ _ (e1252 _ _ (e1241 _ _ (e1232 _ _ (e1220 _ _ (e1213 _ _ (e1205 _ _ h1202))))))))) n1278) (ne_of_none (e1283 _ _ (e1273 _ _ (e1266 _ _ (e1259 _ _ (e1252 _ _ (e1241 _ _ (e1232 _ _ (e1220 _ _ (e1213 _ _ (e1205 _ _ h1202)))))))))) n1295))) n1318))
                  have h1369 := (x1363 _ _ h1351 (ne_of_none (x1303 _ _ ((SameXs.of x1291) _ _ (e1283 _ _ (e1273 _ _ (e1266 _ _ (e1259 _ _ (e1252 _ _ (e1241 _ _ (e1232 _ _ (e1220 _ _ (e1213 _ _ (e1205 _ _ (e1192 _ _ h1189))))))))))) (ni1 (ne_of_none (e1273 _ _ (e1266 _ _ (e1259 _ _ (e1252 _ _ (e1241 _ _ (e1232 _ _ (e1220 _ _ (e1213 _ _ (e1205 _ _ (e1192 _ _ h1189)))))))))) n1278))) (ni2 (ne_of_none (e1273 _ _ (e1266 _ _ (e1259 _ _ (e1252 _ _ (e1241 _ _ (e1232 _ _ (e1220 _ _ (e1213 _ _ (e1205 _ _ (e1192 _ _ h1189)))))))))) n1278) (ne_of_none (e1283 _ _ (e1273 _ _ (e1266 _ _ (e1259 _ _ (e1252 _ _ (e1241 _ _ (e1232 _ _ (e1220 _ _ (e1213 _ _ (e1205 _ _ (e1192 _ _ h1189))))))))))) n1295))) n1318))
                  have h1370 := (x1363 _ _ h1352 (ne_of_none (x1303 _ _ ((SameXs.of x1291) _ _ h1287 (ni1 (ne_of_none (e1273 _ _ (e1266 _ _ (e1259 _ _ (e1252 _ _ (e1241 _ _ (e1232 _ _ (e1220 _ _ (e1213 _ _ (e1205 _ _ h1199))))))))) n1278))) (ni2 (ne_of_none (e1273 _ _ (e1266 _ _ (e1259 _ _ (e1252 _ _ (e1241 _ _ (e1232 _ _ (e1220 _ _ (e1213 _ _ (e1205 _ _ h1199))))))))) n1278) (ne_of_none h1287 n1295))) n1318))
                  have h1371 := (x1363 _ _ h1353 (ne_of_none (x1303 _ _ ((SameXs.of x1291) _ _ (e1283 _ _ (e1273 _ _ (e1266 _ _ (e1259 _ _ (e1252 _ _ (e1241 _ _ (e1232 _ _ h1224))))))) (ni1 (ne_of_none (e1273 _ _ (e1266 _ _ (e1259 _ _ (e1252 _ _ (e1241 _ _ (e1232 _ _ h1224)))))) n1278))) (ni2 (ne_of_none (e1273 _ _ (e1266 _ _ (e1259 _ _ (e1252 _ _ (e1241 _ _ (e1232 _ _ h1224)))))) n1278) (ne_of_none (e1283 _ _ (e1273 _ _ (e1266 _ _ (e1259 _ _ (e1252 _ _ (e1241 _ _ (e1232 _ _ h1224))))))) n1295))) n1318))
                  have h1372 := (x1363 _ _ h1354 (ne_of_none h1305 n1318))
                  have h1373 := (x1363 _ _ h1355 (ne_of_none h1306 n1318))
                  exact ⟨_, (acc1341 ++ [((itD (v844) (x1357)) * 2 ^ Int.toNat (((((itD (v809) (5)) % ((itD (v809) (0)) + 1)) - 1) - x1357)))]), eG1340, S1365, h1366, h1367, h1368, h1369, h1370, h1371, h1372, h1373, (snoc_map h1364), (same_mut eo1347 x1363 n1318), hw⟩
                intro H1374 hw
                obtain ⟨G1377, acc1379, eG1378, S1375, h1386, h1387, h1388, h1389, h1390, h1391, h1392, h1393, h1376, eo1385, hw⟩ := hw
                have hw := hK1316 _ (cW_mapA0 (rng_len _ _).symm hw)
                have fr1394 := S1304.free n1318
                refine ⟨_, _, rfl, (SqL.of h1376), _, _, rfl, rfl, _, rfl, ?_⟩
                refine iteN (fun c1395 => ?_) (fun c1395 => ?_)
                · have hw := cW_neg c1395 hw
                  have hw := cW_ok hw
                  exact eq_bl (k _) (hK0 _ hw).symm
                · have hw := cW_pos c1395 hw
                  refine ⟨_, rfl, _, rfl, _, _, rfl, rfl, ?_⟩
                  have hw := cW_bnd hw
                  obtain ⟨g1397, hw⟩ := cW_grd hw
                  obtain ⟨g1398, hw⟩ := cW_grd hw
                  refine ⟨_, rfl, _, _, rfl, rfl, _, rfl, _, rfl, _, _, _, _, rfl, rfl, (SqL.of h1386), (atI_map g1397), _, _, rfl, rfl, _, rfl, _, rfl, _, _, _, _, rfl, rfl, (SqL.of h1386), (atI_map g1398), _, _, rfl, rfl, (by show 6 ≤ sizeLine; decide), fun p1399 n1400 => ?_⟩
                  generalize g1401 : upd H1374 p1399 _ = H1402
                  obtain ⟨e1403, h1404⟩ := gen_new n1400 g1401
                  have h1405 : H1402 p1399 = some (.lst (([(((itD (v809) (0)) - ((itD (v809) (5)) % ((itD (v809) (0)) + 1))) + 1), 64, 65, (-1), (66 + (itD (v809) (4))), ((-2) - (itD (v809) (4)))] : (List Int)).map V.int)) := h1404
                  have fr1406 := S1375.free n1400
                  have S1407 := S1375.new n1400 e1403 h1405 fr1406
                  obtain ⟨K1415, hK1416, hw⟩ := cW_push hw
                  refine ⟨_, rfl, ⟨_, (SqL.of h1405)⟩, for_list (K := K) (a := p1399) (xs := ([(((itD (v809) (0)) - ((itD (v809) (5)) % ((itD (v809) (0)) + 1))) + 1), 64, 65, (-1), (66 + (itD (v809) (4))), ((-2) - (itD (v809) (4)))] : (List Int)).map V.int) (fun i σ H' => ∃ (u1417 : Option V) (reader_1418 : St_BitReader) (G' : Hp), σ = [some (V.ref a_script), some (V.ref p812), some (V.ref x818), some (V.int ((itD (v809) (0)))), some (V.ref p847), u1417, u1121, some (V.ref p1183), some (V.ref p1221), some (V.ref x1276), some (V.int (((itD (v809) (5)) % ((itD (v809) (0)) + 1)))), some (V.int (((itD (v809) (0)) - ((itD (v809) (5)) % ((itD (v809) (0)) + 1))))), none, none] ∧ Same G1377 G' ∧ Sep [] H H G' H' [p812, x818, l830, p847, p1183, p1221, x1276, l1289, p1399] ∧ H' p812 = some (.lst ((v809 : (List Int)).map V.int)) ∧ H' x818 = some (.ins AD.c_BitWriter dx819 [("_full", V.ref l830), ("_rest", V.int (writer_1120.rest)), ("_rest_bits", V.int (writer_1120.bits))]) ∧ H' l830 = some (.lst ((writer_1120.full : (List Int)).map V.int)) ∧ H' p847 = some (.lst ((v844 : (List Int)).map V.int)) ∧ H' p1183 = some (.lst ((v1180 : (List Int)).map V.int)) ∧ H' p1221 = some (.lst ((v1218 : (List Int)).map V.int)) ∧ H' x1276 = some (.ins AD.c_BitReader dx1277 [("_octets", V.ref l1289), ("_place", V.int (reader_1418.place)), ("_end", V.int (reader_1418.stop))]) ∧ H' l1289 = some (.lst ((reader_1418.octs : (List Int)).map V.int)) ∧ H' p1399 = some (.lst (([(((itD (v809) (0)) - ((itD (v809) (5)) % ((itD (v809) (0)) + 1))) + 1), 64, 65, (-1), (66 + (itD (v809) (4))), ((-2) - (itD (v809) (4)))] : (List Int)).map V.int)) ∧ cW (forR (List.drop i ([(((itD (v809) (0)) - ((itD (v809) (5)) % ((itD (v809) (0)) + 1))) + 1), 64, 65, (-1), (66 + (itD (v809) (4))), ((-2) - (itD (v809) (4)))])) reader_1418 (fun s x => F_law_b4 (((itD (v809) (0)) - ((itD (v809) (5)) % ((itD (v809) (0)) + 1)))) s x)) K1415 EE) ?_ ?_ ?_ ?_⟩
                  · have h1419 := (e1403 _ _ h1386)
                    have h1420 := (e1403 _ _ h1387)
                    have h1421 := (e1403 _ _ h1388)
                    have h1422 := (e1403 _ _ h1389)
                    have h1423 := (e1403 _ _ h1390)
                    have h1424 := (e1403 _ _ h1391)
                    have h1425 := (e1403 _ _ h1392)
                    have h1426 := (e1403 _ _ h1393)
                    exact ⟨_, (v1301.2), _, rfl, (Same.refl _), (S1407.sub (all_cons (.tail _ (.tail _ (.head _))) (all_cons (.tail _ (.tail _ (.tail _ (.head _)))) (all_cons (.tail _ (.tail _ (.tail _ (.tail _ (.head _))))) (all_cons (.tail _ (.tail _ (.tail _ (.tail _ (.tail _ (.head _)))))) (all_cons (.tail _ (.tail _ (.tail _ (.tail _ (.tail _ (.tail _ (.head _))))))) (all_cons (.tail _ (.tail _ (.tail _ (.tail _ (.tail _ (.tail _ (.tail _ (.head _)))))))) (all_cons (.tail _ (.tail _ (.tail _ (.tail _ (.tail _ (.tail _ (.tail _ (.tail _ (.head _))))))))) (all_cons (.tail _ (.tail _ (.tail _ (.tail _ (.tail _ (.tail _ (.tail _ (.tail _ (.tail _ (.head _)))))))))) (all_cons (.head _) all_nil)))))))))), h1419, h1420, h1421, h1422, h1423, h1424, h1425, h1426, h1405, hw⟩
                  · intro i σ H1427 _ hw
                    obtain ⟨u1417, reader_1418, G1438, rfl, eG1439, S1428, h1429, h1430, h1431, h1432, h1433, h1434, h1435, h1436, h1437, hw⟩ := hw
                    exact (SqL.of h1437)
                  · intro i x σ H1440 hj hw
                    obtain ⟨u1417, reader_1418, G1451, rfl, eG1452, S1441, h1442, h1443, h1444, h1445, h1446, h1447, h1448, h1449, h1450, hw⟩ := hw
                    obtain ⟨x1453, hx, rfl⟩ := map_get hj
                    have hw := cW_forR hx hw
                    have hw : cW (F_law_b4 (((itD (v809) (0)) - ((itD (v809) (5)) % ((itD (v809) (0)) + 1)))) (reader_1418) (x1453)) _ EE := hw
                    unfold F_law_b4 at hw
                    obtain ⟨K1455, hK1456, hw⟩ := cW_name hw
                    refine ⟨_, rfl, _, rfl, _, _, rfl, rfl, _, rfl, ?_⟩
                    refine iteD (fun c1458 => ?_) (fun c1458 => ?_)
                    · have hw := cW_pos c1458 hw
                      refine iteT ?_
                      refine ⟨_, rfl, _, rfl, rfl, rfl, G1451, _, _, _, reader_1418, _, rfl, S1441.sG, (S1441.gno (all_cons (.tail _ (.tail _ (.tail _ (.tail _ (.tail _ (.tail _ (.head _))))))) (all_cons (.tail _ (.tail _ (.tail _ (.tail _ (.tail _ (.tail _ (.tail _ (.head _)))))))) all_nil))), h1448, h1449, cW_call hw (fun v1459 hw H1460 x1461 h1463 h1464  => ?_) (fun e he => (hE e he).elim)⟩
                      have S1462 := S1441.mut x1461 (all_cons (.tail _ (.tail _ (.tail _ (.tail _ (.tail _ (.tail _ (.head _))))))) (all_cons (.tail _ (.tail _ (.tail _ (.tail _ (.tail _ (.tail _ (.tail _ (.head _)))))))) all_nil)) (all_cons (some_ne h1463) (all_cons (some_ne h1464) all_nil))
                      refine ⟨_, rfl, ?_⟩
                      refine iteBN (fun c1469 => ?_) (fun c1469 => ?_)
                      · have hw := cW_negB c1469 hw
                        have hw := cW_ok hw
                        have hw := hK1456 (.rt _) hw
                        have hw := hK1416 (.rt _) hw
                        have hw := cW_ok hw
                        exact eq_bl (k _) (hK0 _ hw).symm
                      · have hw := cW_pos c1469 hw
                        have hw := cW_ok hw
                        have hw := hK1456 _ hw
                        have h1470 := (x1461 _ _ h1442 (ni2 (ne_of_none (e1273 _ _ (e1266 _ _ (e1259 _ _ (e1252 _ _ (e1241 _ _ (e1232 _ _ (e1220 _ _ (e1213 _ _ (e1205 _ _ (e1192 _ _ (e1182 _ _ h1172))))))))))) n1278) (ne_of_none (e1283 _ _ (e1273 _ _ (e1266 _ _ (e1259 _ _ (e1252 _ _ (e1241 _ _ (e1232 _ _ (e1220 _ _ (e1213 _ _ (e1205 _ _ (e1192 _ _ (e1182 _ _ h1172)))))))))))) n1295)))
                        have h1471 := (x1461 _ _ h1443 (ni2 (ne_of_none (e1273 _ _ (e1266 _ _ (e1259 _ _ (e1252 _ _ (e1241 _ _ (e1232 _ _ (e1220 _ _ (e1213 _ _ (e1205 _ _ h1201))))))))) n1278) (ne_of_none (e1283 _ _ (e1273 _ _ (e1266 _ _ (e1259 _ _ (e1252 _ _ (e1241 _ _ (e1232 _ _ (e1220 _ _ (e1213 _ _ (e1205 _ _ h1201)))))))))) n1295)))
                        have h1472 := (x1461 _ _ h1444 (ni2 (ne_of_none (e1273 _ _ (e1266 _ _ (e1259 _ _ (e1252 _ _ (e1241 _ _ (e1232 _ _ (e1220 _ _ (e1213 _ _ (e1205 _ _ h1202))))))))) n1278) (ne_of_none (e1283 _ _ (e1273 _ _ (e1266 _ _ (e1259 _ _ (e1252 _ _ (e1241 _ _ (e1232 _ _ (e1220 _ _ (e1213 _ _ (e1205 _ _ h1202)))))))))) n1295)))
                        have h1473 := (x1461 _ _ h1445 (ni2 (ne_of_none (e1273 _ _ (e1266 _ _ (e1259 _ _ (e1252 _ _ (e1241 _ _ (e1232 _ _ (e1220 _ _ (e1213 _ _ (e1205 _ _ (e1192 _ _ h1189)))))))))) n1278) (ne_of_none (e1283 _ _ (e1273 _ _ (e1266 _ _ (e1259 _ _ (e1252 _ _ (e1241 _ _ (e1232 _ _ (e1220 _ _ (e1213 _ _ (e1205 _ _ (e1192 _ _ h1189))))))))))) n1295)))
                        have h1474 := (x1461 _ _ h1446 (ni2 (ne_of_none (e1273 _ _ (e1266 _ _ (e1259 _ _ (e1252 _ _ (e1241 _ _ (e1232 _ _ (e1220 _ _ (e1213 _ _ (e1205 _ _ h1199))))))))) n1278) (ne_of_none h1287 n1295)))
                        have h1475 := (x1461 _ _ h1447 (ni2 (ne_of_none (e1273 _ _ (e1266 _ _ (e1259 _ _ (e1252 _ _ (e1241 _ _ (e1232 _ _ h1224)))))) n1278) (ne_of_none (e1283 _ _ (e1273 _ _ (e1266 _ _ (e1259 _ _ (e1252 _ _ (e1241 _ _ (e1232 _ _ h1224))))))) n1295)))
                        have h1476 := (x1461 _ _ h1450 (ni2 (ne_of_none h1392 n1400).symm (ne_of_none h1393 n1400).symm))
                        exact ⟨_, (v1459.2), _, rfl, eG1452, S1462, h1470, h1471, h1472, h1473, h1474, h1475, h1463, h1464, h1476, hw⟩
                    · have hw := cW_neg c1458 hw
                      refine ⟨_, rfl, _, _, rfl, rfl, _, rfl, ?_⟩
                      refine iteD (fun c1477 => ?_) (fun c1477 => ?_)
                      · have hw := cW_pos c1477 hw
                        refine ⟨_, rfl, _, rfl, rfl, rfl, G1451, _, _, _, reader_1418, _, rfl, S1441.sG, (S1441.gno (all_cons (.tail _ (.tail _ (.tail _ (.tail _ (.tail _ (.tail _ (.head _))))))) (all_cons (.tail _ (.tail _ (.tail _ (.tail _ (.tail _ (.tail _ (.tail _ (.head _)))))))) all_nil))), h1448, h1449, cW_call hw (fun v1478 hw H1479 x1480 h1482 h1483  => ?_) (fun e he => (hE e he).elim)⟩
                        have S1481 := S1441.mut x1480 (all_cons (.tail _ (.tail _ (.tail _ (.tail _ (.tail _ (.tail _ (.head _))))))) (all_cons (.tail _ (.tail _ (.tail _ (.tail _ (.tail _ (.tail _ (.tail _ (.head _)))))))) all_nil)) (all_cons (some_ne h1482) (all_cons (some_ne h1483) all_nil))
                        refine ⟨_, rfl, ?_⟩
                        refine iteBN (fun c1488 => ?_) (fun c1488 => ?_)
                        · have hw := cW_negB c1488 hw
                          have hw := cW_ok hw
                          have hw := hK1456 (.rt _) hw
                          have hw := hK1416 (.rt _) hw
                          have hw := cW_ok hw
                          exact eq_bl (k _) (hK0 _ hw).symm
                        · have hw := cW_pos c1488 hw
                          have hw := cW_ok hw
                          have hw := hK1456 _ hw
                          have h1489 := (x1480 _ _ h1442 (ni2 (ne_of_none (e1273 _ _ (e1266 _ _ (e1259 _ _ (e1252 _ _ (e1241 _ _ (e1232 _ _ (e1220 _ _ (e1213 _ _ (e1205 _ _ (e1192 _ _ (e1182 _ _ h1172))))))))))) n1278) (ne_of_none (e1283 _ _ (e1273 _ _ (e1266 _ _ (e1259 _ _ (e1252 _ _ (e1241 _ _ (e1232 _ _ (e1220 _ _ (e1213 _ _ (e1205 _ _ (e1192 _ _ (e1182 _ _ h1172)))))))))))) n1295)))
                          have h1490 := (x1480 _ _ h1443 (ni2 (ne_of_none (e1273 _ _ (e1266 _ _ (e1259 _ _ (e1252 _ _ (e1241 _ _ (e1232 _ _ (e1220 _ _ (e1213 _ _ (e1205 _ _ h1201))))))))) n1278) (ne_of_none (e1283 _ _ (e1273 _ _ (e1266 _ _ (e1259 _ _ (e1252 _ _ (e1241 _ _ (e1232 _ _ (e1220 _ _ (e1213 _ _ (e1205 _ _ h1201)))))))))) n1295)))
                          have h1491 := (x1480 _ _ h1444 (ni2 (ne_of_none (e1273 _ _ (e1266 _ _ (e1259 _ _ (e1252 _ _ (e1241 _ _ (e1232 _ _ (e1220 _ _ (e1213 _ _ (e1205 _ _ h1202))))))))) n1278) (ne_of_none (e1283 _ _ (e1273 _ _ (e1266 _ _ (e1259 _ _ (e1252 _ _ (e1241 _ _ (e1232 _ _ (e1220 _ _ (e1213 _ _ (e1205 _ _ h1202)))))))))) n1295)))
                          have h1492 := (x1480 _ _ h1445 (ni2 (ne_of_none (e1273 _ _ (e1266 _ _ (e1259 _ _ (e1252 _ _ (e1241 _ _ (e1232 _ _ (e1220 _ _ (e1213 _ _ (e1205 _ _ (e1192 _ _ h1189)))))))))) n1278) (ne_of_none (e1283 _ _ (e1273 _ _ (e1266 _ _ (e1259 _ _ (e1252 _ _ (e1241 _ _ (e1232 _ _ (e1220 _ _ (e1213 _ _ (e1205 _ _ (e1192 _ _ h1189))))))))))) n1295)))
                          have h1493 := (x1480 _ _ h1446 (ni2 (ne_of_none (e1273 _ _ (e1266 _ _ (e1259 _ _ (e1252 _ _ (e1241 _ _ (e1232 _ _ (e1220 _ _ (e1213 _ _ (e1205 _ _ h1199))))))))) n1278) (ne_of_none h1287 n1295)))
                          have h1494 := (x1480 _ _ h1447 (ni2 (ne_of_none (e1273 _ _ (e1266 _ _ (e1259 _ _ (e1252 _ _ (e1241 _ _ (e1232 _ _ h1224)))))) n1278) (ne_of_none (e1283 _ _ (e1273 _ _ (e1266 _ _ (e1259 _ _ (e1252 _ _ (e1241 _ _ (e1232 _ _ h1224))))))) n1295)))
                          have h1495 := (x1480 _ _ h1450 (ni2 (ne_of_none h1392 n1400).symm (ne_of_none h1393 n1400).symm))
                          exact ⟨_, (v1478.2), _, rfl, eG1452, S1481, h1489, h1490, h1491, h1492, h1493, h1494, h1482, h1483, h1495, hw⟩
                      · have hw := cW_neg c1477 hw
                        refine iteF ?_
                        have hw := cW_ok hw
                        have hw := hK1456 _ hw
                        exact ⟨_, (reader_1418), _, rfl, eG1452, S1441, h1442, h1443, h1444, h1445, h1446, h1447, h1448, h1449, h1450, hw⟩
                  · intro σ H1496 hw
                    obtain ⟨u1417, reader_1418, G1507, rfl, eG1508, S1497, h1498, h1499, h1500, h1501, h1502, h1503, h1504, h1505, h1506, hw⟩ := hw
                    have hw := cW_aftgo (hK1416 _ (cW_forR0 (by rw [List.length_map]) hw))
                    have hw : cW (F_law_r4 (v809) (writer_1120) ((itD (v809) (0))) (v844) (((itD (v809) (5)) % ((itD (v809) (0)) + 1))) (((itD (v809) (0)) - ((itD (v809) (5)) % ((itD (v809) (0)) + 1)))) (reader_1418)) _ EE := hw
                    unfold F_law_r4 at hw
                    refine ⟨_, rfl, _, _, _, rfl, h1499, rfl, rfl, rfl, G1507, _, _, _, writer_1120, _, _, rfl, S1497.sG, (S1497.gno (all_cons (.tail _ (.head _)) (all_cons (.tail _ (.tail _ (.head _))) all_nil))), h1499, h1500, cW_call hw (fun v1510 hw H1511 x1512 h1514 h1515  => ?_) (fun e he => (hE e he).elim)⟩
                    have S1513 := S1497.mut x1512 (all_cons (.tail _ (.head _)) (all_cons (.tail _ (.tail _ (.head _))) all_nil)) (all_cons (some_ne h1514) (all_cons (some_ne h1515) all_nil))
                    refine ⟨_, rfl, _, _, _, rfl, h1514, rfl, rfl, rfl, G1507, _, _, _, v1510, rfl, S1513.sG, (hide_nil h1514), (hide_nil h1515), cW_call hw (fun v1520 hw p1523 H1521 n1524 e1522 h1525 => ?_) (fun e he => (hE e he).elim)⟩
                    have h1526 : H1521 p1523 = some (.lst ((v1520 : (List Int)).map V.int)) := h1525
                    have fr1527 := S1513.free n1524
                    have S1528 := S1513.new n1524 e1522 h1526 fr1527
                    refine ⟨rfl, rfl, fun x1529 dx1530 n1531 n1532 n1533 => ?_⟩
                    generalize g1534 : upd (upd H1521 dx1530 _) x1529 _ = H1535
                    obtain ⟨e1536, h1537⟩ := gen_obj n1531 n1532 n1533 g1534
                    have fr1538 := S1528.free n1531
                    have S1539 := S1528.new n1531 e1536 h1537 fr1538
                    have h1540 := (e1536 _ _ h1526)
                    refine ⟨G1507, _, _, _, _, rfl, S1539.sG, (S1539.gno (all_cons (.head _) all_nil)), h1537, ((hideL_out (ni1 (ne_of_none h1526 n1531))).trans h1540), cW_call hw (fun v1541 hw H1543 l1542 x1544 n1548 h1545 h1547 => ⟨rfl, ?_⟩) (fun e he => (hE e he).elim)⟩
                    have fr1549 := S1539.free n1548
                    have S1546 : Sep _ _ _ _ H1543 [l1542, x1529, p1523, p812, x818, l830, p847, p1183, p1221, x1276, l1289, p1399] := Sep.init S1539 x1544 (.head _) h1545 [l1542] (all_cons ⟨n1548, some_ne h1547, fr1549⟩ all_nil)
                    obtain ⟨g1550, hw⟩ := cW_grd hw
                    have h1551 := ((SameXs.of x1544) _ _ (e1536 _ _ (e1522 _ _ (x1512 _ _ h1498 (ni2 (ne_of_none h815 n820) (ne_of_none (e825 _ _ h815) n836))))) (ni1 (ne_of_none (e1522 _ _ (x1512 _ _ h1498 (ni2 (ne_of_none h815 n820) (ne_of_none (e825 _ _ h815) n836)))) n1531)))
                    refine ⟨_, rfl, _, _, _, _, rfl, rfl, (SqL.of h1551), (atI_map g1550), .inl ⟨_, rfl, ?_⟩⟩
                    refine ⟨_, _, rfl, rfl, (show (0 : Int) < 40 by decide), _, _, rfl, rfl, _, rfl, (by show 3 ≤ sizeLine; decide), fun p1552 n1553 => ?_⟩
                    generalize g1554 : upd H1543 p1552 _ = H1555
                    obtain ⟨e1556, h1557⟩ := gen_new n1553 g1554
                    have h1558 : H1555 p1552 = some (.lst (([65, (65 + ((itD (v809) (4)) % 40)), (-1)] : (List Int)).map V.int)) := h1557
                    have fr1559 := S1546.free n1553
                    have S1560 := S1546.new n1553 e1556 h1558 fr1559
                    obtain ⟨K1566, hK1567, hw⟩ := cW_push hw
                    refine ⟨_, rfl, ⟨_, (SqL.of h1558)⟩, for_list (K := K) (a := p1552) (xs := ([65, (65 + ((itD (v809) (4)) % 40)), (-1)] : (List Int)).map V.int) (fun i σ H' => ∃ (u1568 : Option V) (long_1569 : St_BitReader) (G' : Hp), σ = [some (V.ref a_script), some (V.ref p812), some (V.ref x818), some (V.int ((itD (v809) (0)))), some (V.ref p847), u1568, u1121, some (V.ref p1183), some (V.ref p1221), some (V.ref x1276), some (V.int (((itD (v809) (5)) % ((itD (v809) (0)) + 1)))), some (V.int (((itD (v809) (0)) - ((itD (v809) (5)) % ((itD (v809) (0)) + 1))))), some (V.ref x1529), none] ∧ Same G1507 G' ∧ Sep [] H H G' H' [p812, x818, l830, p847, p1183, p1221, x1276, l1289, x1529, l1542, p1552] ∧ H' p812 = some (.lst ((v809 : (List Int)).map V.int)) ∧ H' x818 = some (.ins AD.c_BitWriter dx819 [("_full", V.ref l830), ("_rest", V.int (v1510.rest)), ("_rest_bits", V.int (v1510.bits))]) ∧ H' l830 = some (.lst ((v1510.full : (List Int)).map V.int)) ∧ H' p847 = some (.lst ((v844 : (List Int)).map V.int)) ∧ H' p1183 = some (.lst ((v1180 : (List Int)).map V.int)) ∧ H' p1221 = some (.lst ((v1218 : (List Int)).map V.int)) ∧ H' x1276 = some (.ins AD.c_BitReader dx1277 [("_octets", V.ref l1289), ("_place", V.int (reader_1418.place)), ("_end", V.int (reader_1418.stop))]) ∧ H' l1289 = some (.lst ((reader_1418.octs : (List Int)).map V.int)) ∧ H' x1529 = some (.ins AD.c_BitReader dx1530 [("_octets", V.ref l1542), ("_place", V.int (long_1569.place)), ("_end", V.int (long_1569.stop))]) ∧ H' l1542 = some (.lst ((long_1569.octs : (List Int)).map V.int)) ∧ H' p1552 = some (.lst (([65, (65 + ((itD (v809) (4)) % 40)), (-1)] : (List Int)).map V.int)) ∧ cW (forR (List.drop i ([65, (65 + ((itD (v809) (4)) % 40)), (-1)])) long_1569 (fun s x => F_law_b5 ((itD (v809) (0))) s x)) K1566 EE) ?_ ?_ ?_ ?_⟩
                    · have h1570 := (e1556 _ _ h1551)
                      have h1571 := (e1556 _ _ ((SameXs.of x1544) _ _ (e1536 _ _ (e1522 _ _ h1514)) (ni1 (ne_of_none (e1522 _ _ h1514) n1531))))
                      have h1572 := (e1556 _ _ ((SameXs.of x1544) _ _ (e1536 _ _ (e1522 _ _ h1515)) (ni1 (ne_of_none (e1522 _ _ h1515) n1531))))
                      have h1573 := (e1556 _ _ ((SameXs.of x1544) _ _ (e1536 _ _ (e1522 _ _ (x1512 _ _ h1501 (ni2 (ne_of_none h833 n848).symm (ne_of_none h835 n848).symm)))) (ni1 (ne_of_none (e1522 _ _ (x1512 _ _ h1501 (ni2 (ne_of_none h833 n848).symm (ne_of_none h835 n848).symm))) n1531))))
                      have h1574 := (e1556 _ _ ((SameXs.of x1544) _ _ (e1536 _ _ (e1522 _ _ (x1512 _ _ h1502 (ni2 (ne_of_none h1173 n1184).symm (ne_of_none h1174 n1184).symm)))) (ni1 (ne_of_none (e1522 _ _ (x1512 _ _ h1502 (ni2 (ne_of_none h1173 n1184).symm (ne_of_none h1174 n1184).symm))) n1531))))
                      have h1575 := (e1556 _ _ ((SameXs.of x1544) _ _ (e1536 _ _ (e1522 _ _ (x1512 _ _ h1503 (ni2 (ne_of_none (e1213 _ _ (e1205 _ _ h1201)) n1222).symm (ne_of_none (e1213 _ _ (e1205 _ _ h1202)) n1222).symm)))) (ni1 (ne_of_none (e1522 _ _ (x1512 _ _ h1503 (ni2 (ne_of_none (e1213 _ _ (e1205 _ _ h1201)) n1222).symm (ne_of_none (e1213 _ _ (e1205 _ _ h1202)) n1222).symm))) n1531))))
                      have h1576 := (e1556 _ _ ((SameXs.of x1544) _ _ (e1536 _ _ (e1522 _ _ (x1512 _ _ h1504 (ni2 (ne_of_none (e1273 _ _ (e1266 _ _ (e1259 _ _ (e1252 _ _ (e1241 _ _ (e1232 _ _ (e1220 _ _ (e1213 _ _ (e1205 _ _ h1201))))))))) n1278).symm (ne_of_none (e1273 _ _ (e1266 _ _ (e1259 _ _ (e1252 _ _ (e1241 _ _ (e1232 _ _ (e1220 _ _ (e1213 _ _ (e1205 _ _ h1202))))))))) n1278).symm)))) (ni1 (ne_of_none (e1522 _ _ (x1512 _ _ h1504 (ni2 (ne_of_none (e1273 _ _ (e1266 _ _ (e1259 _ _ (e1252 _ _ (e1241 _ _ (e1232 _ _ (e1220 _ _ (e1213 _ _ (e1205 _ _ h1201))))))))) n1278).symm (ne_of_none (e1273 _ _ (e1266 _ _ (e1259 _ _ (e1252 _ _ (e1241 _ _ (e1232 _ _ (e1220 _ _ (e1213 _ _ (e1205 _ _ h1202))))))))) n1278).symm))) n1531))))
                      have h1577 := (e1556 _ _ ((SameXs.of x1544) _ _ (e1536 _ _ (e1522 _ _ (x1512 _ _ h1505 (ni2 (ne_of_none (e1283 _ _ (e1273 _ _ (e1266 _ _ (e1259 _ _ (e1252 _ _ (e1241 _ _ (e1232 _ _ (e1220 _ _ (e1213 _ _ (e1205 _ _ h1201)))))))))) n1295).symm (ne_of_none (e1283 _ _ (e1273 _ _ (e1266 _ _ (e1259 _ _ (e1252 _ _ (e1241 _ _ (e1232 _ _ (e1220 _ _ (e1213 _ _ (e1205 _ _ h1202)))))))))) n1295).symm)))) (ni1 (ne_of_none (e1522 _ _ (x1512 _ _ h1505 (ni2 (ne_of_none (e1283 _ _ (e1273 _ _ (e1266 _ _ (e1259 _ _ (e1252 _ _ (e1241 _ _ (e1232 _ _ (e1220 _ _ (e1213 _ _ (e1205 _ _ h1201)))))))))) n1295).symm (ne_of_none (e1283 _ _ (e1273 _ _ (e1266 _ _ (e1259 _ _ (e1252 _ _ (e1241 _ _ (e1232 _ _ (e1220 _ _ (e1213 _ _ (e1205 _ _ h1202)))))))))) n1295).symm))) n1531))))
                      have h1578 := (e1556 _ _ h1545)
                      have h1579 := (e1556 _ _ h1547)
                      exact ⟨_, (v1541), _, rfl, (Same.refl _), (S1560.sub (all_cons (.tail _ (.tail _ (.tail _ (.tail _ (.head _))))) (all_cons (.tail _ (.tail _ (.tail _ (.tail _ (.tail _ (.head _)))))) (all_cons (.tail _ (.tail _ (.tail _ (.tail _ (.tail _ (.tail _ (.head _))))))) (all_cons (.tail _ (.tail _ (.tail _ (.tail _ (.tail _ (.tail _ (.tail _ (.head _)))))))) (all_cons (.tail _ (.tail _ (.tail _ (.tail _ (.tail _ (.tail _ (.tail _ (.tail _ (.head _))))))))) (all_cons (.tail _ (.tail _ (.tail _ (.tail _ (.tail _ (.tail _ (.tail _ (.tail _ (.tail _ (.head _)))))))))) (all_cons (.tail _ (.tail _ (.tail _ (.tail _ (.tail _ (.tail _ (.tail _ (.tail _ (.tail _ (.tail _ (.head _))))))))))) (all_cons (.tail _ (.tail _ (.tail _ (.tail _ (.tail _ (.tail _ (.tail _ (.tail _ (.tail _ (.tail _ (.tail _ (.head _)))))))))))) (all_cons (.tail _ (.tail _ (.head _))) (all_cons (.tail _ (.head _)) (all_cons (.head _) all_nil)))))))))))), h1570, h1571, h1572, h1573, h1574, h1575, h1576, h1577, h1578, h1579, h1558, hw⟩
                    · intro i σ H1580 _ hw
                      obtain ⟨u1568, long_1569, G1593, rfl, eG1594, S1581, h1582, h1583, h1584, h1585, h1586, h1587, h1588, h1589, h1590, h1591, h1592, hw⟩ := hw
                      exact (SqL.of h1592)
                    · intro i x σ H1595 hj hw
                      obtain ⟨u1568, long_1569, G1608, rfl, eG1609, S1596, h1597, h1598, h1599, h1600, h1601, h1602, h1603, h1604, h1605, h1606, h1607, hw⟩ := hw
                      obtain ⟨x1610, hx, rfl⟩ := map_get hj
                      have hw := cW_forR hx hw
                      have hw : cW (F_law_b5 ((itD (v809) (0))) (long_1569) (x1610)) _ EE := hw
                      unfold F_law_b5 at hw
                      obtain ⟨K1612, hK1613, hw⟩ := cW_name hw
                      refine ⟨_, rfl, _, rfl, rfl, rfl, G1608, _, _, _, long_1569, _, rfl, S1596.sG, (S1596.gno (all_cons (.tail _ (.tail _ (.tail _ (.tail _ (.tail _ (.tail _ (.tail _ (.tail _ (.head _))))))))) (all_cons (.tail _ (.tail _ (.tail _ (.tail _ (.tail _ (.tail _ (.tail _ (.tail _ (.tail _ (.head _)))))))))) all_nil))), h1605, h1606, cW_call hw (fun v1615 hw H1616 x1617 h1619 h1620  => ?_) (fun e he => (hE e he).elim)⟩
                      have S1618 := S1596.mut x1617 (all_cons (.tail _ (.tail _ (.tail _ (.tail _ (.tail _ (.tail _ (.tail _ (.tail _ (.head _))))))))) (all_cons (.tail _ (.tail _ (.tail _ (.tail _ (.tail _ (.tail _ (.tail _ (.tail _ (.tail _ (.head _)))))))))) all_nil)) (all_cons (some_ne h1619) (all_cons (some_ne h1620) all_nil))
                      refine ⟨_, rfl, ?_⟩
                      refine iteBN (fun c1625 => ?_) (fun c1625 => ?_)
                      · have hw := cW_negB c1625 hw
                        refine iteT ?_
                        have hw := cW_ok hw
                        have hw := hK1613 (.rt _) hw
                        have hw := hK1567 (.rt _) hw
                        have hw := cW_ok hw
                        exact eq_bl (k _) (hK0 _ hw).symm
                      · have hw := cW_pos c1625 hw
                        refine ⟨_, rfl, _, _, _, rfl, h1619, G1608, _, _, _, v1615.2, rfl, S1618.sG, (hide_nil h1619), (hide_nil h1620), cW_callN hw (fun v1626 hw H1627 e1628 => ?_) trivial⟩
                        have S1629 := S1618.same e1628
                        refine ⟨_, rfl, _, _, rfl, rfl, _, _, rfl, rfl, _, rfl, ?_⟩
                        refine iteN (fun c1630 => ?_) (fun c1630 => ?_)
                        · have hw := cW_neg c1630 hw
                          have hw := cW_ok hw
                          have hw := hK1613 (.rt _) hw
                          have hw := hK1567 (.rt _) hw
                          have hw := cW_ok hw
                          exact eq_bl (k _) (hK0 _ hw).symm
                        · have hw := cW_pos c1630 hw
                          have hw := cW_ok hw
                          have hw := hK1613 _ hw
                          have h1631 := (e1628 _ _ (x1617 _ _ h1597 (ni2 (ne_of_none (e1522 _ _ (x1512 _ _ h1498 (ni2 (ne_of_none h815 n820) (ne_of_none (e825 _ _ h815) n836)))) n1531) (ne_of_none (e1536 _ _ (e1522 _ _ (x1512 _ _ h1498 (ni2 (ne_of_none h815 n820) (ne_of_none (e825 _ _ h815) n836))))) n1548))))
                          have h1632 := (e1628 _ _ (x1617 _ _ h1598 (ni2 (ne_of_none (e1522 _ _ h1514) n1531) (ne_of_none (e1536 _ _ (e1522 _ _ h1514)) n1548))))
                          have h1633 := (e1628 _ _ (x1617 _ _ h1599 (ni2 (ne_of_none (e1522 _ _ h1515) n1531) (ne_of_none (e1536 _ _ (e1522 _ _ h1515)) n1548))))
                          have h1634 := (e1628 _ _ (x1617 _ _ h1600 (ni2 (ne_of_none (e1522 _ _ (x1512 _ _ h1501 (ni2 (ne_of_none h833 n848).symm (ne_of_none h835 n848).symm))) n1531) (ne_of_none (e1536 _ _ (e1522 _ _ (x1512 _ _ h1501 (ni2 (ne_of_none h833 n848).symm (ne_of_none h835 n848).symm)))) n1548))))
                          have h1635 := (e1628 _ _ (x1617 _ _ h1601 (ni2 (ne_of_none (e1522 _ _ (x1512 _ _ h1502 (ni2 (ne_of_none h1173 n1184).symm (ne_of_none h1174 n1184).symm))) n1531) (ne_of_none (e1536 _ _ (e1522 _ _ (x1512 _ _ h1502 (ni2 (ne_of_none h1173 n1184).symm (ne_of_none h1174 n1184).symm)))) n1548))))
                          have h1636 := (e1628 _ _ (x1617 _ _ h1602 (ni2 (ne_of_none (e1522 _ _ (x1512 _ _ h1503 (ni2 (ne_of_none (e1213 _ _ (e1205 _ _ h1201)) n1222).symm (ne_of_none (e1213 _ _ (e1205 _ _ h1202)) n1222).symm))) n1531) (ne_of_none (e1536 _ _ (e1522 _ _ (x1512 _ _ h1503 (ni2 (ne_of_none (e1213 _ _ (e1205 _ _ h1201)) n1222).symm (ne_of_none (e1213 _ _ (e1205 _ _ h1202)) n1222).symm)))) n1548))))
                          have h1637 := (e1628 _ _ (x1617 _ _ h1603 (ni2 (ne_of_none (e1522 _ _ (x1512 _ _ h1504 (ni2 (ne_of_none (e1273 _ _ (e1266 _ _ (e1259 _ _ (e1252 _ _ (e1241 _ _ (e1232 _ _ (e1220 _ _ (e1213 _ _ (e1205 _ _ h1201))))))))) n1278).symm (ne_of_none (e1273 _ _ (e1266 _ _ (e1259 _ _ (e1252 _ _ (e1241 _ _ (e1232 _ _ (e1220 _ _ (e1213 _ _ (e1205 _ _ h1202))))))))) n1278).symm))) n1531) (ne_of_none (e1536 _ _ (e1522 _ _ (x1512 _ _ h1504 (ni2 (ne_of_none (e1273 _ _ (e1266 _ _ (e1259 _ _ (e1252 _ _ (e1241 _ _ (e1232 _ _ (e1220 _ _ (e1213 _ _ (e1205 _ _ h1201))))))))) n1278).symm (ne_of_none (e1273 _ _ (e1266 _ _ (e1259 _ _ (e1252 _ _ (e1241 _ _ (e1232 _ _ (e1220 _ _ (e1213 _ _ (e1205 _ _ h1202))))))))) n1278).symm)))) n1548))))
                          have h1638 := (e1628 _ _ (x1617 _ _ h1604 (ni2 (ne_of_none (e1522 _ _ (x1512 _ _ h1505 (ni2 (ne_of_none (e1283 _ _ (e1273 _ _ (e1266 _ _ (e1259 _ _ (e1252 _ _ (e1241 _ _ (e1232 _ _ (e1220 _ _ (e1213 _ _ (e1205 _ _ h1201)))))))))) n1295).symm (ne_of_none (e1283 _ _ (e1273 _ _ (e1266 _ _ (e1259 _ _ (e1252 _ _ (e1241 _ _ (e1232 _ _ (e1220 _ _ (e1213 _ _ (e1205 _ _ h1202)))))))))) n1295).symm))) n1531) (ne_of_none (e1536 _ _ (e1522 _ _ (x1512 _ _ h1505 (ni2 (ne_of_none (e1283 _ _ (e1273 _ _ (e1266 _ _ (e1259 _ _ (e1252 _ _ (e1241 _ _ (e1232 _ _ (e1220 _ _ (e1213 _ _ (e1205 _ _ h1201)))))))))) n1295).symm (ne_of_none (e1283 _ _ (e1273 _ _ (e1266 _ _ (e1259 _ _ (e1252 _ _ (e1241 _ _ (e1232 _ _ (e1220 _ _ (e1213 _ _ (e1205 _ _ h1202)))))))))) n1295).symm)))) n1548))))
                          have h1639 := (e1628 _ _ h1619)
                          have h1640 := (e1628 _ _ h1620)
                          have h1641 := (e1628 _ _ (x1617 _ _ h1607 (ni2 (ne_of_none h1545 n1553).symm (ne_of_none h1547 n1553).symm)))
                          exact ⟨_, (v1615.2), _, rfl, eG1609, S1629, h1631, h1632, h1633, h1634, h1635, h1636, h1637, h1638, h1639, h1640, h1641, hw⟩
                    · intro σ H1642 hw
                      obtain ⟨u1568, long_1569, G1655, rfl, eG1656, S1643, h1644, h1645, h1646, h1647, h1648, h1649, h1650, h1651, h1652, h1653, h1654, hw⟩ := hw
                      have hw := cW_aftgo (hK1567 _ (cW_forR0 (by rw [List.length_map]) hw))
                      have hw : cW (F_law_r5 (v844) (reader_1418) (((itD (v809) (5)) % ((itD (v809) (0)) + 1))) (((itD (v809) (0)) - ((itD (v809) (5)) % ((itD (v809) (0)) + 1)))) (long_1569)) _ EE := hw
                      unfold F_law_r5 at hw
                      refine ⟨_, rfl, _, _, _, rfl, h1650, G1655, _, _, _, reader_1418, rfl, S1643.sG, (hide_nil h1650), (hide_nil h1651), cW_callN hw (fun v1658 hw H1659 e1660 => ?_) trivial⟩
                      have S1661 := S1643.same e1660
                      refine ⟨_, rfl, _, _, rfl, rfl, _, rfl, ?_⟩
                      refine iteB (fun c1662 => ?_) (fun c1662 => ?_)
                      · have hw := cW_pos c1662 hw
                        have h1663 := (e1660 _ _ h1650)
                        have h1664 := (e1660 _ _ h1651)
                        refine ⟨_, rfl, _, _, _, rfl, h1663, rfl, _, rfl, rfl, rfl, G1655, _, _, _, reader_1418, _, rfl, S1661.sG, (S1661.gno (all_cons (.tail _ (.tail _ (.tail _ (.tail _ (.tail _ (.tail _ (.head _))))))) (all_cons (.tail _ (.tail _ (.tail _ (.tail _ (.tail _ (.tail _ (.tail _ (.head _)))))))) all_nil))), h1663, h1664, cW_call hw (fun v1665 hw H1666 x1667 h1669 h1670  => ?_) (fun e he => (hE e he).elim)⟩
                        have S1668 := S1661.mut x1667 (all_cons (.tail _ (.tail _ (.tail _ (.tail _ (.tail _ (.tail _ (.head _))))))) (all_cons (.tail _ (.tail _ (.tail _ (.tail _ (.tail _ (.tail _ (.tail _ (.head _)))))))) all_nil)) (all_cons (some_ne h1669) (all_cons (some_ne h1670) all_nil))
                        obtain ⟨g1675, hw⟩ := cW_grd hw
                        obtain ⟨K1680, hK1681, hw⟩ := cW_push hw
                        refine ⟨_, rfl, _, rfl, g1675.1, g1675.2, fun D1682 n1683 => lc_range (lo := 0) (n := Int.toNat (((itD (v809) (0)) - ((itD (v809) (5)) % ((itD (v809) (0)) + 1))))) (fun i1 H' => ∃ (G' : Hp) (acc1685 : (List Int)), Same G1655 G' ∧ Sep [] H H G' H' [D1682, p812, x818, l830, p847, p1183, p1221, x1276, l1289, x1529, l1542] ∧ H' p812 = some (.lst ((v809 : (List Int)).map V.int)) ∧ H' x818 = some (.ins AD.c_BitWriter dx819 [("_full", V.ref l830), ("_rest", V.int (v1510.rest)), ("_rest_bits", V.int (v1510.bits))]) ∧ H' l830 = some (.lst ((v1510.full : (List Int)).map V.int)) ∧ H' p847 = some (.lst ((v844 : (List Int)).map V.int)) ∧ H' p1183 = some (.lst ((v1180 : (List Int)).map V.int)) ∧ H' p1221 = some (.lst ((v1218 : (List Int)).map V.int)) ∧ H' x1276 = some (.ins AD.c_BitReader dx1277 [("_octets", V.ref l1289), ("_place", V.int (v1665.2.place)), ("_end", V.int (v1665.2.stop))]) ∧ H' l1289 = some (.lst ((v1665.2.octs : (List Int)).map V.int)) ∧ H' x1529 = some (.ins AD.c_BitReader dx1530 [("_octets", V.ref l1542), ("_place", V.int (long_1569.place)), ("_end", V.int (long_1569.stop))]) ∧ H' l1542 = some (.lst ((long_1569.octs : (List Int)).map V.int)) ∧ H' D1682 = some (.lst ((acc1685 : (List Int)).map V.int)) ∧ Same H1666 H' ∧ cW (mapA (List.drop i1 (rng (0) (Int.toNat (((itD (v809) (0)) - ((itD (v809) (5)) % ((itD (v809) (0)) + 1))))))) acc1685 (fun x => noEr (F_law_c6 (v844) (((itD (v809) (5)) % ((itD (v809) (0)) + 1))) (((itD (v809) (0)) - ((itD (v809) (5)) % ((itD (v809) (0)) + 1)))) x))) K1680 EE) ?_ ?_ ?_⟩
                        · generalize g1687 : upd H1666 D1682 _ = H1688
                          obtain ⟨e1689, h1690⟩ := gen_new n1683 g1687
                          have fr1691 := S1668.free n1683
                          have S1692 := S1668.new n1683 e1689 h1690 fr1691
                          have h1693 := (e1689 _ _ (x1667 _ _ (e1660 _ _ h1644) (ni2 (ne_of_none (e1273 _ _ (e1266 _ _ (e1259 _ _ (e1252 _ _ (e1241 _ _ (e1232 _ _ (e1220 _ _ (e1213 _ _ (e1205 _ _ (e1192 _ _ (e1182 _ _ h1172))))))))))) n1278) (ne_of_none (e1283 _ _ (e1273 _ _ (e1266 _ _ (e1259 _ _ (e1252 _ _ (e1241 _ _ (e1232 _ _ (e1220 _ _ (e1213 _ _ (e1205 _ _ (e1192 _ _ (e1182 _ _ h1172)))))))))))) n1295))))
                          have h1694 := (e1689 _ _ (x1667 _ _ (e1660 _ _ h1645) (ni2 (ne_of_none (e1273 _ _ (e1266 _ _ (e1259 _ _ (e1252 _ _ (e1241 _ _ (e1232 _ _ (e1220 _ _ (e1213 _ _ (e1205 _ _ h1201))))))))) n1278) (ne_of_none (e1283 _ _ (e1273 _ _ (e1266 _ _ (e1259 _ _ (e1252 _ _ (e1241 _ _ (e1232 _ _ (e1220 _ _ (e1213 _ _ (e1205 _ _ h1201)))))))))) n1295))))
                          have h1695 := (e1689 _ _ (x1667 _ _ (e1660 _ _ h1646) (ni2 (ne_of_none (e1273 _ _ (e1266 _ _ (e1259 _ _ (e1252 _ _ (e1241 _ _ (e1232 _ _ (e1220 _ _ (e1213 _ _ (e1205 _ _ h1202))))))))) n1278) (ne_of_none (e1283 _ _ (e1273 _ _ (e1266 _ _ (e1259 _ _ (e1252 _ _ (e1241 _ _ (e1232 _ _ (e1220 _ _ (e1213 _ _ (e1205 _ _ h1202)))))))))) n1295))))
                          have h1696 := (e1689 _ _ (x1667 _ _ (e1660 _ _ h1647) (ni2 (ne_of_none (e1273 _ _ (e1266 _ _ (e1259 _ _ (e1252 _ _ (e1241 _ _ (e1232 _ _ (e1220 _ _ (e1213 _ _ (e1205 _ _ (e1192 _ _ h1189)))))))))) n1278) (ne_of_none (e1283 _ _ (e1273 _ _ (e1266 _ _ (e1259 _ _ (e1252 _ _ (e1241 _ _ (e1232 _ _ (e1220 _ _ (e1213 _ _ (e1205 _ _ (e1192 _ _ h1189))))))))))) n1295))))
                          have h1697 := (e1689 _ _ (x1667 _ _ (e1660 _ _ h1648) (ni2 (ne_of_none (e1273 _ _ (e1266 _ _ (e1259 _ _ (e1252 _ _ (e1241 _ _ (e1232 _ _ (e1220 _ _ (e1213 _ _ (e1205 _ _ h1199))))))))) n1278) (ne_of_none h1287 n1295))))
                          have h1698 := (e1689 _ _ (x1667 _ _ (e1660 _ _ h1649) (ni2 (ne_of_none (e1273 _ _ (e1266 _ _ (e1259 _ _ (e1252 _ _ (e1241 _ _ (e1232 _ _ h1224)))))) n1278) (ne_of_none (e1283 _ _ (e1273 _ _ (e1266 _ _ (e1259 _ _ (e1252 _ _ (e1241 _ _ (e1232 _ _ h1224))))))) n1295))))
                          have h1699 := (e1689 _ _ h1669)
                          have h1700 := (e1689 _ _ h1670)
                          have h1701 := (e1689 _ _ (x1667 _ _ (e1660 _ _ h1652) (ni2 (ne_of_none (e1522 _ _ (x1512 _ _ h1504 (ni2 (ne_of_none (e1273 _ _ (e1266 _ _ (e1259 _ _ (e1252 _ _ (e1241 _ _ (e1232 _ _ (e1220 _ _ (e1213 _ _ (e1205 _ _ h1201))))))))) n1278).symm (ne_of_none (e1273 _ _ (e1266 _ _ (e1259 _ _ (e1252 _ _ (e1241 _ _ (e1232 _ _ (e1220 _ _ (e1213 _ _ (e1205 _ _ h1202))))))))) n1278).symm))) n1531).symm (ne_of_none (e1522 _ _ (x1512 _ _ h1505 (ni2 (ne_of_none (e1283 _ _ (e1273 _ _ (e1266 _ _ (e1259 _ _ (e1252 _ _ (e1241 _ _ (e1232 _ _ (e1220 _ _ (e1213 _ _ (e1205 _ _ h1201)))))))))) n1295).symm (ne_of_none (e1283 _ _ (e1273 _ _ (e1266 _ _ (e1259 _ _ (e1252 _ _ (e1241 _ _ (e1232 _ _ (e1220 _ _ (e1213 _ _ (e1205 _ _ h1202)))))))))) n1295).symm))) n1531).symm)))
                          have h1702 := (e1689 _ _ (x1667 _ _ (e1660 _ _ h1653) (ni2 (ne_of_none (e1536 _ _ (e1522 _ _ (x1512 _ _ h1504 (ni2 (ne_of_none (e1273 _ _ (e1266 _ _ (e1259 _ _ (e1252 _ _ (e1241 _ _ (e1232 _ _ (e1220 _ _ (e1213 _ _ (e1205 _ _ h1201))))))))) n1278).symm (ne_of_none (e1273 _ _ (e1266 _ _ (e1259 _ _ (e1252 _ _ (e1241 _ _ (e1232 _ _ (e1220 _ _ (e1213 _ _ (e1205 _ _ h1202))))))))) n1278).symm)))) n1548).symm (ne_of_none (e1536 _ _ (e1522 _ _ (x1512 _ _ h1505 (ni2 (ne_of_none (e1283 _ _ (e1273 _ _ (e1266 _ _ (e1259 _ _ (e1252 _ _ (e1241 _ _ (e1232 _ _ (e1220 _ _ (e1213 _ _ (e1205 _ _ h1201)))))))))) n1295).symm (ne_of_none (e1283 _ _ (e1273 _ _ (e1266 _ _ (e1259 _ _ (e1252 _ _ (e1241 _ _ (e1232 _ _ (e1220 _ _ (e1213 _ _ (e1205 _ _ h1202)))))))))) n1295).symm)))) n1548).symm)))
                          exact ⟨_, [], Same.refl _, (S1692.sub (all_cons (.head _) (all_cons (.tail _ (.head _)) (all_cons (.tail _ (.tail _ (.head _))) (all_cons (.tail _ (.tail _ (.tail _ (.head _)))) (all_cons (.tail _ (.tail _ (.tail _ (.tail _ (.head _))))) (all_cons (.tail _ (.tail _ (.tail _ (.tail _ (.tail _ (.head _)))))) (all_cons (.tail _ (.tail _ (.tail _ (.tail _ (.tail _ (.tail _ (.head _))))))) (all_cons (.tail _ (.tail _ (.tail _ (.tail _ (.tail _ (.tail _ (.tail _ (.head _)))))))) (all_cons (.tail _ (.tail _ (.tail _ (.tail _ (.tail _ (.tail _ (.tail _ (.tail _ (.head _))))))))) (all_cons (.tail _ (.tail _ (.tail _ (.tail _ (.tail _ (.tail _ (.tail _ (.tail _ (.tail _ (.head _)))))))))) (all_cons (.tail _ (.tail _ (.tail _ (.tail _ (.tail _ (.tail _ (.tail _ (.tail _ (.tail _ (.tail _ (.head _))))))))))) all_nil)))))))))))), h1693, h1694, h1695, h1696, h1697, h1698, h1699, h1700, h1701, h1702, h1690, e1689, hw⟩
                        · intro i1 H1703 hi hw
                          obtain ⟨G1706, acc1708, eG1707, S1704, h1715, h1716, h1717, h1718, h1719, h1720, h1721, h1722, h1723, h1724, h1705, eo1714, hw⟩ := hw
                          obtain ⟨z1725, hw⟩ := cW_mapA (rng_get hi) hw
                          generalize (0 + (i1 : Int)) = x1726 at hw ⊢
                          have hw := cW_noEr hw
                          have hw : cW (F_law_c6 (v844) (((itD (v809) (5)) % ((itD (v809) (0)) + 1))) (((itD (v809) (0)) - ((itD (v809) (5)) % ((itD (v809) (0)) + 1)))) (x1726)) _ (fun _ => False) := hw
                          unfold F_law_c6 at hw
                          refine ⟨rfl, ?_⟩
                          refine tyes_go ?_
                          obtain ⟨g1728, hw⟩ := cW_grd hw
                          obtain ⟨g1729, hw⟩ := cW_grd hw
                          refine ⟨_, rfl, _, rfl, _, rfl, _, _, rfl, rfl, _, _, _, _, rfl, rfl, (SqL.of h1718), (atI_map g1728), _, rfl, _, _, rfl, rfl, _, rfl, _, _, rfl, rfl, _, _, rfl, rfl, (shl_side g1729.1 g1729.2.1 g1729.2.2.1 g1729.2.2.2), _, h1705, (app_lenM z1725), ?_⟩
                          generalize g1730 : upd H1703 D1682 _ = H1731
                          obtain ⟨x1732, h1733⟩ := gen_mut g1730
                          have S1734 := S1704.mut1 x1732 (.head _) h1733
                          have hw := cW_ok hw
                          have h1735 := (x1732 _ _ h1715 (ne_of_none (x1667 _ _ (e1660 _ _ h1644) (ni2 (ne_of_none (e1273 _ _ (e1266 _ _ (e1259 _ _ (e1252 _ _ (e1241 _ _ (e1232 _ _ (e1220 _ _ (e1213 _ _ (e1205 _ _ (e1192 _ _ (e1182 _ _ h1172))))))))))) n1278) (ne_of_none (e1283 _ _ (e1273 _ _ (e1266 _ _ (e1259 _ _ (e1252 _ _ (e1241 _ _ (e1232 _ _ (e1220 _ _ (e1213 _ _ (e1205 _ _ (e1192 _ _ (e1182 _ _ h1172)))))))))))) n1295))) n1683))
                          have h1736 := (x1732 _ _ h1716 (ne_of_none (x1667 _ _ (e1660 _ _ h1645) (ni2 (ne_of_none (e1273 _ _ (e1266 _ _ (e1259 _ _ (e1252 _ _ (e1241 _ _ (e1232 _ _ (e1220 _ _ (e1213 _ _ (e1205 _ _ h1201))))))))) n1278) (ne_of_none (e1283 _ _ (e1273 _ _ (e1266 _ _ (e1259 _ _ (e1252 _ _ (e1241 _ _ (e1232 _ _ (e1220 _ _ (e1213 _ _ (e1205 _ _ h1201)))))))))) n1295))) n1683))
                          have h1737 := (x1732 _ _ h1717 (ne_of_none (x1667 _ _ (e1660 _ _ h1646) (ni2 (ne_of_none (e1273 _ _ (e1266 _ _ (e1259 _ _ (e1252 _ _ (e1241 _ _ (e1232 _ _ (e1220 _ _ (e1213 _ _ (e1205 _ _ h1202))))))))) n1278) (ne_of_none (e1283 _ _ (e1273 _ _ (e1266 _ _ (e1259 _ _ (e1252 _ _ (e1241 _ _ (e1232 _ _ (e1220 _ _ (e1213 _ _ (e1205 _ _ h1202)))))))))) n1295))) n1683))
                          have h1738 := (x1732 _ _ h1718 (ne_of_none (x1667 _ _ (e1660 _ _ h1647) (ni2 (ne_of_none (e1273 _ _ (e1266 _ _ (e1259 _ _ (e1252 _ _ (e1241 _ _ (e1232 _ _ (e1220 _ _ (e1213 _ _ (e1205 _ _ (e1192 _ _ h1189)))))))))) n1278) (ne_of_none (e1283 _ _ (e1273 _ _ (e1266 _ _ (e1259 _ _ (e1252 _ _ (e1241 _ _ (e1232 _ _ (e1220 _ _ (e1213 _ _ (e1205 _ _ (e1192 _ _ h1189))))))))))) n1295))) n1683))
                          have h1739 := (x1732 _ _ h1719 (ne_of_none (x1667 _ _ (e1660 _ _ h1648) (ni2 (ne_of_none (e1273 _ _ (e1266 _ _ (e1259 _ _ (e1252 _ _ (e1241 _ _ (e1232 _ _ (e1220 _ _ (e1213 _ _ (e1205 _ _ h1199))))))))) n1278) (ne_of_none h1287 n1295))) n1683))
                          have h1740 := (x1732 _ _ h1720 (ne_of_none (x1667 _ _ (e1660 _ _ h1649) (ni2 (ne_of_none (e1273 _ _ (e1266 _ _ (e1259 _ _ (e1252 _ _ (e1241 _ _ (e1232 _ _ h1224)))))) n1278) (ne_of_none (e1283 _ _ (e1273 _ _ (e1266 _ _ (e1259 _ _ (e1252 _ _ (e1241 _ _ (e1232 _ _ h1224))))))) n1295))) n1683))
                          have h1741 := (x1732 _ _ h1721 (ne_of_none h1669 n1683))
                          have h1742 := (x1732 _ _ h1722 (ne_of_none h1670 n1683))
                          have h1743 := (x1732 _ _ h1723 (ne_of_none (x1667 _ _ (e1660 _ _ h1652) (ni2 (ne_of_none (e1522 _ _ (x1512 _ _ h1504 (ni2 (ne_of_none (e1273 _ _ (e1266 _ _ (e1259 _ _ (e1252 _ _ (e1241 _ _ (e1232 _ _ (e1220 _ _ (e1213 _ _ (e1205 _ _ h1201))))))))) n1278).symm (ne_of_none (e1273 _ _ (e1266 _ _ (e1259 _ _ (e1252 _ _ (e1241 _ _ (e1232 _ _ (e1220 _ _ (e1213 _ _ (e1205 _ _ h1202))))))))) n1278).symm))) n1531).symm (ne_of_none (e1522 _ _ (x1512 _ _ h1505 (ni2 (ne_of_none (e1283 _ _ (e1273 _ _ (e1266 _ _ (e1259 _ _ (e1252 _ _ (e1241 _ _ (e1232 _ _ (e1220 _ _ (e1213 _ _ (e1205 _ _ h1201)))))))))) n1295).symm (ne_of_none (e1283 _ _ (e1273 _ _ (e1266 _ _ (e1259 _ _ (e1252 _ _ (e1241 _ _ (e1232 _ _ (e1220 _ _ (e1213 _ _ (e1205 _ _ h1202)))))))))) n1295).symm))) n1531).symm)) n1683))
                          have h1744 := (x1732 _ _ h1724 (ne_of_none (x1667 _ _ (e1660 _ _ h1653) (ni2 (ne_of_none (e1536 _ _ (e1522 _ _ (x1512 _ _ h1504 (ni2 (ne_of_none (e1273 _ _ (e1266 _ _ (e1259 _ _ (e1252 _ _ (e1241 _ _ (e1232 _ _ (e1220 _ _ (e1213 _ _ (e1205 _ _ h1201))))))))) n1278).symm (ne_of_none (e1273 _ _ (e1266 _ _ (e1259 _ _ (e1252 _ _ (e1241 _ _ (e1232 _ _ (e1220 _ _ (e1213 _ _ (e1205 _ _ h1202))))))))) n1278).symm)))) n1548).symm (ne_of_none (e1536 _ _ (e1522 _ _ (x1512 _ _ h1505 (ni2 (ne_of_none (e1283 _ _ (e1273 _ _ (e1266 _ _ (e1259 _ _ (e1252 _ _ (e1241 _ _ (e1232 _ _ (e1220 _ _ (e1213 _ _ (e1205 _ _ h1201)))))))))) n1295).symm (ne_of_none (e1283 _ _ (e1273 _ _ (e1266 _ _ (e1259 _ _ (e1252 _ _ (e1241 _ _ (e1232 _ _ (e1220 _ _ (e1213 _ _ (e1205 _ _ h1202)))))))))) n1295).symm)))) n1548).symm)) n1683))
                          exact ⟨_, (acc1708 ++ [((itD (v844) ((((itD (v809) (5)) % ((itD (v809) (0)) + 1)) + x1726))) * 2 ^ Int.toNat (((((itD (v809) (0)) - ((itD (v809) (5)) % ((itD (v809) (0)) + 1))) - 1) - x1726)))]), eG1707, S1734, h1735, h1736, h1737, h1738, h1739, h1740, h1741, h1742, h1743, h1744, (snoc_map h1733), (same_mut eo1714 x1732 n1683), hw⟩
                        intro H1745 hw
                        obtain ⟨G1748, acc1750, eG1749, S1746, h1757, h1758, h1759, h1760, h1761, h1762, h1763, h1764, h1765, h1766, h1747, eo1756, hw⟩ := hw
                        have hw := hK1681 _ (cW_mapA0 (rng_len _ _).symm hw)
                        have fr1767 := S1668.free n1683
                        refine ⟨_, _, rfl, (SqL.of h1747), _, _, rfl, rfl, ?_⟩
                        have hw := cW_ok hw
                        exact eq_bl (k _) (hK0 _ hw).symm
                      · have hw := cW_negB c1662 hw
                        have hw := cW_ok hw
                        exact eq_bl (k _) (hK0 _ hw).symm
end
def spL (K : PySem.W.Frag) : Sp := fun vs H Q _ => ∃ (a_script : Addr) (script : List Int), vs = [.ref a_script] ∧ SqL K H a_script (script.map V.int) ∧ script.length ≤ 63 ∧ ∀ H', Q (.bl true) H'
def adK (K : PySem.W.Frag) : Ads := ⟨He.ga K "BitWriter", He.ga K "BitReader", He.ga K "CodecError", He.ga K "OutOfRange", He.ga K "OutOfBits", He.ga K "BadOctets", 0⟩
abbrev dk0 : He5.DefA := ⟨fun K => He.ga K "_law_draws", "_law_draws", "_law_draws", defArgs s__law_draws, defBody s__law_draws, defScope s__law_draws, [], []⟩
abbrev dk1 : He5.DefA := ⟨fun K => He.ma K (He.ga K "BitWriter") "__init__", "__init__", "BitWriter.__init__", defArgs s_BitWriter___init__, defBody s_BitWriter___init__, defScope s_BitWriter___init__, [], []⟩
abbrev dk2 : He5.DefA := ⟨fun K => He.ga K "_law_bits", "_law_bits", "_law_bits", defArgs s__law_bits, defBody s__law_bits, defScope s__law_bits, [], []⟩
abbrev dk3 : He5.DefA := ⟨fun K => He.ga K "_last_bit", "_last_bit", "_last_bit", defArgs s__last_bit, defBody s__last_bit, defScope s__last_bit, [], []⟩
abbrev dk4 : He5.DefA := ⟨fun K => He.ma K (He.ga K "BitReader") "__init__", "__init__", "BitReader.__init__", defArgs s_BitReader___init__, defBody s_BitReader___init__, defScope s_BitReader___init__, [], []⟩
abbrev dk5 : He5.DefA := ⟨fun K => He.ga K "_law_cell", "_law_cell", "_law_cell", defArgs s__law_cell, defBody s__law_cell, defScope s__law_cell, [], []⟩
abbrev dk6 : He5.DefA := ⟨fun K => He.ma K (He.ga K "BitWriter") "_add", "_add", "BitWriter._add", defArgs s_BitWriter__add, defBody s_BitWriter__add, defScope s_BitWriter__add, [], []⟩
abbrev dk7 : He5.DefA := ⟨fun K => He.ma K (He.ga K "BitWriter") "put", "put", "BitWriter.put", defArgs s_BitWriter_put, defBody s_BitWriter_put, defScope s_BitWriter_put, [], []⟩
abbrev dk8 : He5.DefA := ⟨fun K => He.ma K (He.ga K "BitWriter") "octets", "octets", "BitWriter.octets", defArgs s_BitWriter_octets, defBody s_BitWriter_octets, defScope s_BitWriter_octets, [], []⟩
abbrev dk9 : He5.DefA := ⟨fun K => He.ma K (He.ga K "BitWriter") "put_ue", "put_ue", "BitWriter.put_ue", defArgs s_BitWriter_put_ue, defBody s_BitWriter_put_ue, defScope s_BitWriter_put_ue, [], []⟩
abbrev dk10 : He5.DefA := ⟨fun K => He.ma K (He.ga K "BitWriter") "put_se", "put_se", "BitWriter.put_se", defArgs s_BitWriter_put_se, defBody s_BitWriter_put_se, defScope s_BitWriter_put_se, [], []⟩
abbrev dk11 : He5.DefA := ⟨fun K => He.ga K "_law_put_refused", "_law_put_refused", "_law_put_refused", defArgs s__law_put_refused, defBody s__law_put_refused, defScope s__law_put_refused, [], []⟩
abbrev dk12 : He5.DefA := ⟨fun K => He.ga K "_law_packed", "_law_packed", "_law_packed", defArgs s__law_packed, defBody s__law_packed, defScope s__law_packed, [], []⟩
abbrev dk13 : He5.DefA := ⟨fun K => prA "BitWriter" "length" K, "length", "BitWriter.length", defArgs s_BitWriter_length, defBody s_BitWriter_length, defScope s_BitWriter_length, [], []⟩
abbrev dk14 : He5.DefA := ⟨fun K => He.ga K "_law_octets_refused", "_law_octets_refused", "_law_octets_refused", defArgs s__law_octets_refused, defBody s__law_octets_refused, defScope s__law_octets_refused, [], []⟩
abbrev dk15 : He5.DefA := ⟨fun K => He.ma K (He.ga K "BitReader") "_look", "_look", "BitReader._look", defArgs s_BitReader__look, defBody s_BitReader__look, defScope s_BitReader__look, [], []⟩
abbrev dk16 : He5.DefA := ⟨fun K => He.ma K (He.ga K "BitReader") "_take", "_take", "BitReader._take", defArgs s_BitReader__take, defBody s_BitReader__take, defScope s_BitReader__take, [], []⟩
abbrev dk17 : He5.DefA := ⟨fun K => He.ma K (He.ga K "BitReader") "get", "get", "BitReader.get", defArgs s_BitReader_get, defBody s_BitReader_get, defScope s_BitReader_get, [], []⟩
abbrev dk18 : He5.DefA := ⟨fun K => prA "BitReader" "left" K, "left", "BitReader.left", defArgs s_BitReader_left, defBody s_BitReader_left, defScope s_BitReader_left, [], []⟩
abbrev dk19 : He5.DefA := ⟨fun K => He.ga K "_law_get_refused", "_law_get_refused", "_law_get_refused", defArgs s__law_get_refused, defBody s__law_get_refused, defScope s__law_get_refused, [], []⟩
abbrev dk20 : He5.DefA := ⟨fun K => He.ga K "law", "law", "law", defArgs s_law, defBody s_law, defScope s_law, [], []⟩
def fa0 : List FaK := [(fun K => (He.Fa.free "abs").ok K), (fun K => (He.Fa.free "int").ok K), (fun K => (He.Fa.free "range").ok K), (fun K => (He.Fa.free "list").ok K), (fun K => (He.Fa.free "len").ok K), (fun K => (He.Fa.int "MOST_BITS" 64).ok K), (fun K => (He.Fa.free "isinstance").ok K), (fun K => (He.Fa.free "sum").ok K), (fun K => (He.Fa.cls "BitWriter").ok K), (fun K => (He.Fa.noat "BitWriter" "_full").ok K), (fun K => (He.Fa.noat "BitWriter" "_rest").ok K), (fun K => (He.Fa.noat "BitWriter" "_rest_bits").ok K), (fun K => (He.Fa.cls "BitReader").ok K), (fun K => (He.Fa.noat "BitReader" "_octets").ok K), (fun K => (He.Fa.noat "BitReader" "_place").ok K), (fun K => (He.Fa.noat "BitReader" "_end").ok K), (fun K => (He.Fa.exc "BadOctets").ok K), (fun K => (He.Fa.glo "BadOctets").ok K), (fun K => (He.Fa.exc "OutOfRange").ok K), (fun K => (He.Fa.glo "OutOfRange").ok K), (fun K => (He.Fa.exc "OutOfBits").ok K), (fun K => (He.Fa.glo "OutOfBits").ok K), (fun K => (He.Fa.exc "CodecError").ok K), (fun K => (He.Fa.glo "CodecError").ok K), (fun K => (He.Fa.exm "OutOfRange" "OutOfRange" true).ok K), (fun K => (He.Fa.exm "BadOctets" "BadOctets" true).ok K), (fun K => (He.Fa.exm "OutOfBits" "OutOfBits" true).ok K), (fun K => (He.Fa.exm "OutOfBits" "OutOfRange" false).ok K), (kitFB "OutOfRange" (fun K => .ref (He.ga K "CodecError")) true), (kitFB "BadOctets" (fun K => .ref (He.ga K "CodecError")) true)]
def fa1 : List FaK := [(kitFB "OutOfBits" (fun K => .ref (He.ga K "CodecError")) true), (kitFB "OutOfRange" (fun K => .ref (He.ga K "OutOfBits")) false), (kitFB "OutOfRange" (fun K => .ref (He.ga K "BadOctets")) false), (kitFB "BadOctets" (fun K => .ref (He.ga K "OutOfBits")) false), (excCB "OutOfRange"), (excCB "BadOctets"), (excCB "OutOfBits"), (fun K => (He.Fa.glo "_law_draws").ok K), (fun K => (He.Fa.mkr "BitWriter").ok K), (fun K => (He.Fa.glo "BitWriter").ok K), (fun K => (He.Fa.glo "_law_bits").ok K), (fun K => (He.Fa.glo "_last_bit").ok K), (fun K => (He.Fa.mkr "BitReader").ok K), (fun K => (He.Fa.glo "BitReader").ok K), (fun K => (He.Fa.glo "_law_cell").ok K), (fun K => (He.Fa.meth "BitWriter" "_add").ok K), (fun K => (He.Fa.meth "BitWriter" "put").ok K), (fun K => (He.Fa.meth "BitWriter" "octets").ok K), (fun K => (He.Fa.meth "BitWriter" "put_ue").ok K), (fun K => (He.Fa.meth "BitWriter" "put_se").ok K), (fun K => (He.Fa.glo "_law_put_refused").ok K), (fun K => (He.Fa.glo "_law_packed").ok K), (prpB "BitWriter" "length"), (fun K => (He.Fa.glo "_law_octets_refused").ok K), (fun K => (He.Fa.meth "BitReader" "_look").ok K), (fun K => (He.Fa.meth "BitReader" "_take").ok K), (fun K => (He.Fa.meth "BitReader" "get").ok K), (prpB "BitReader" "left"), (fun K => (He.Fa.glo "_law_get_refused").ok K), (fun K => (He.Fa.glo "law").ok K)]
def fas : List (List FaK) := [fa0, fa1]
def fn0 : List He5.DefA := [dk0, dk1, dk2, dk3, dk4, dk5, dk6, dk7, dk8, dk9, dk10, dk11, dk12, dk13, dk14, dk15, dk16, dk17, dk18, dk19, dk20]
def fns : List He5.DefA := fn0
def tbs : List He.Tab := []
def nms0 : List Str := ["_wall", "__name__", "CodecError", "OutOfRange", "OutOfBits", "BadOctets", "MOST_BITS", "BitWriter", "BitReader", "_last_bit", "_law_cell", "_law_draws", "_law_bits", "_law_ue", "_law_se", "_law_packed", "_law_put_refused", "_law_get_refused", "_law_octets_refused"]
def nms : List Str := nms0
abbrev RowK : PySem.W.OpenRow := PySem.W.OpenLaw.row PySem.Challenge.rw_thaumatrope_k06_bits_refused
abbrev hkK : PySem.W.Hook := hookK 6 fas fns tbs
def obK (s : PySem.W.SharedT) : AlK := obsKG 6 fas fns tbs (HandSHeadRun.getT s)
theorem obK_eq (s : PySem.W.SharedT) : obK s = hkK.obs s.abs := obsKG_eq (HandSHeadRun.getT_eq s)
theorem runK0 (w : World) : HandSHeadRun.RunEq RowK (PySem.W.view RowK.prog [21]) hkK obK 20000 nms (w.withFollow "special-get-raises" false) := by
  intro os
  kernel_rfl
theorem runK1 (w : World) : HandSHeadRun.RunEq RowK (PySem.W.view RowK.prog [21]) hkK obK 20000 nms (w.withFollow "special-get-raises" true) := by
  intro os
  kernel_rfl
theorem runK (w : World) : HandSHeadRun.RunEq RowK (PySem.W.view RowK.prog [21]) hkK obK 20000 nms w := PySem.W.byRow2 "special-get-raises" runK0 runK1 w
section
variable {P : Program} {w : World} {K : PySem.W.Frag} {h : Heap} {mg : Str → Option Value} (X : K.In h) (G : h.Ns mainGlobals mg) (c : SaysK fas fns tbs w K)
include X G c
theorem T_ : Txt w K mg (adK K) := ⟨He.free_ok X G (c.fact 0 0 (l := fa0) (f := (fun K => (He.Fa.free "abs").ok K)) rfl rfl), He.free_ok X G (c.fact 0 1 (l := fa0) (f := (fun K => (He.Fa.free "int").ok K)) rfl rfl), He.free_ok X G (c.fact 0 2 (l := fa0) (f := (fun K => (He.Fa.free "range").ok K)) rfl rfl), He.free_ok X G (c.fact 0 3 (l := fa0) (f := (fun K => (He.Fa.free "list").ok K)) rfl rfl), He.free_ok X G (c.fact 0 4 (l := fa0) (f := (fun K => (He.Fa.free "len").ok K)) rfl rfl), (Exists.elim (He.int_ok X G (c.fact 0 5 (l := fa0) (f := (fun K => (He.Fa.int "MOST_BITS" 64).ok K)) rfl rfl)) fun t e => ⟨_, e, ⟨t, rfl⟩⟩), He.free_ok X G (c.fact 0 6 (l := fa0) (f := (fun K => (He.Fa.free "isinstance").ok K)) rfl rfl), He.free_ok X G (c.fact 0 7 (l := fa0) (f := (fun K => (He.Fa.free "sum").ok K)) rfl rfl), He.cls_ok (c.fact 0 8 (l := fa0) (f := (fun K => (He.Fa.cls "BitWriter").ok K)) rfl rfl), He.noat_ok (c.fact 0 9 (l := fa0) (f := (fun K => (He.Fa.noat "BitWriter" "_full").ok K)) rfl rfl), He.noat_ok (c.fact 0 10 (l := fa0) (f := (fun K => (He.Fa.noat "BitWriter" "_rest").ok K)) rfl rfl), He.noat_ok (c.fact 0 11 (l := fa0) (f := (fun K => (He.Fa.noat "BitWriter" "_rest_bits").ok K)) rfl rfl), He.cls_ok (c.fact 0 12 (l := fa0) (f := (fun K => (He.Fa.cls "BitReader").ok K)) rfl rfl), He.noat_ok (c.fact 0 13 (l := fa0) (f := (fun K => (He.Fa.noat "BitReader" "_octets").ok K)) rfl rfl), He.noat_ok (c.fact 0 14 (l := fa0) (f := (fun K => (He.Fa.noat "BitReader" "_place").ok K)) rfl rfl), He.noat_ok (c.fact 0 15 (l := fa0) (f := (fun K => (He.Fa.noat "BitReader" "_end").ok K)) rfl rfl), (He.glo_ok X G (c.fact 0 17 (l := fa0) (f := (fun K => (He.Fa.glo "BadOctets").ok K)) rfl rfl)), (He.exc_ok (c.fact 0 16 (l := fa0) (f := (fun K => (He.Fa.exc "BadOctets").ok K)) rfl rfl)).1, (He.exc_ok (c.fact 0 16 (l := fa0) (f := (fun K => (He.Fa.exc "BadOctets").ok K)) rfl rfl)).2.1, (He.exc_ok (c.fact 0 16 (l := fa0) (f := (fun K => (He.Fa.exc "BadOctets").ok K)) rfl rfl)).2.2.1, (He.exc_ok (c.fact 0 16 (l := fa0) (f := (fun K => (He.Fa.exc "BadOctets").ok K)) rfl rfl)).2.2.2, (He.glo_ok X G (c.fact 0 19 (l := fa0) (f := (fun K => (He.Fa.glo "OutOfRange").ok K)) rfl rfl)), (He.exc_ok (c.fact 0 18 (l := fa0) (f := (fun K => (He.Fa.exc "OutOfRange").ok K)) rfl rfl)).1, (He.exc_ok (c.fact 0 18 (l := fa0) (f := (fun K => (He.Fa.exc "OutOfRange").ok K)) rfl rfl)).2.1, (He.exc_ok (c.fact 0 18 (l := fa0) (f := (fun K => (He.Fa.exc "OutOfRange").ok K)) rfl rfl)).2.2.1, (He.exc_ok (c.fact 0 18 (l := fa0) (f := (fun K => (He.Fa.exc "OutOfRange").ok K)) rfl rfl)).2.2.2, (He.glo_ok X G (c.fact 0 21 (l := fa0) (f := (fun K => (He.Fa.glo "OutOfBits").ok K)) rfl rfl)), (He.exc_ok (c.fact 0 20 (l := fa0) (f := (fun K => (He.Fa.exc "OutOfBits").ok K)) rfl rfl)).1, (He.exc_ok (c.fact 0 20 (l := fa0) (f := (fun K => (He.Fa.exc "OutOfBits").ok K)) rfl rfl)).2.1, (He.exc_ok (c.fact 0 20 (l := fa0) (f := (fun K => (He.Fa.exc "OutOfBits").ok K)) rfl rfl)).2.2.1, (He.exc_ok (c.fact 0 20 (l := fa0) (f := (fun K => (He.Fa.exc "OutOfBits").ok K)) rfl rfl)).2.2.2, (He.glo_ok X G (c.fact 0 23 (l := fa0) (f := (fun K => (He.Fa.glo "CodecError").ok K)) rfl rfl)), (He.exc_ok (c.fact 0 22 (l := fa0) (f := (fun K => (He.Fa.exc "CodecError").ok K)) rfl rfl)).1, (He.exc_ok (c.fact 0 22 (l := fa0) (f := (fun K => (He.Fa.exc "CodecError").ok K)) rfl rfl)).2.1, (He.exc_ok (c.fact 0 22 (l := fa0) (f := (fun K => (He.Fa.exc "CodecError").ok K)) rfl rfl)).2.2.1, (He.exc_ok (c.fact 0 22 (l := fa0) (f := (fun K => (He.Fa.exc "CodecError").ok K)) rfl rfl)).2.2.2, He.exm_ok (c.fact 0 24 (l := fa0) (f := (fun K => (He.Fa.exm "OutOfRange" "OutOfRange" true).ok K)) rfl rfl), He.exm_ok (c.fact 0 25 (l := fa0) (f := (fun K => (He.Fa.exm "BadOctets" "BadOctets" true).ok K)) rfl rfl), He.exm_ok (c.fact 0 26 (l := fa0) (f := (fun K => (He.Fa.exm "OutOfBits" "OutOfBits" true).ok K)) rfl rfl), He.exm_ok (c.fact 0 27 (l := fa0) (f := (fun K => (He.Fa.exm "OutOfBits" "OutOfRange" false).ok K)) rfl rfl), kitFB_ok (c.fact 0 28 (l := fa0) (f := (kitFB "OutOfRange" (fun K => .ref (He.ga K "CodecError")) true)) rfl rfl), kitFB_ok (c.fact 0 29 (l := fa0) (f := (kitFB "BadOctets" (fun K => .ref (He.ga K "CodecError")) true)) rfl rfl), kitFB_ok (c.fact 1 0 (l := fa1) (f := (kitFB "OutOfBits" (fun K => .ref (He.ga K "CodecError")) true)) rfl rfl), kitFB_ok (c.fact 1 1 (l := fa1) (f := (kitFB "OutOfRange" (fun K => .ref (He.ga K "OutOfBits")) false)) rfl rfl), kitFB_ok (c.fact 1 2 (l := fa1) (f := (kitFB "OutOfRange" (fun K => .ref (He.ga K "BadOctets")) false)) rfl rfl), kitFB_ok (c.fact 1 3 (l := fa1) (f := (kitFB "BadOctets" (fun K => .ref (He.ga K "OutOfBits")) false)) rfl rfl), excCB_ok (c.fact 1 4 (l := fa1) (f := (excCB "OutOfRange")) rfl rfl), excCB_ok (c.fact 1 5 (l := fa1) (f := (excCB "BadOctets")) rfl rfl), excCB_ok (c.fact 1 6 (l := fa1) (f := (excCB "OutOfBits")) rfl rfl)⟩
theorem D_0 : DefX K mg "_law_draws" s__law_draws ["cell", "limits"] pats__law_draws := by
  obtain ⟨fd0, F0⟩ : ∃ fd, FunD K "_law_draws" "_law_draws" (defArgs s__law_draws) (defBody s__law_draws) (defScope s__law_draws) [] [] (He.ga K "_law_draws") fd := c.def_ 0 (d := dk0) rfl
  obtain ⟨kV, dc, pm, an, cd, ct, rfl⟩ := fnD_ex F0
  exact ⟨_, _, _, _, F0, (He.glo_ok X G (c.fact 1 7 (l := fa1) (f := (fun K => (He.Fa.glo "_law_draws").ok K)) rfl rfl)), (all_consQ (Bnd.all fun us ws vs zs l1 l2 r rz => by
      obtain ⟨u0, u1, rfl⟩ := len2 (r.length.symm.trans l1)
      obtain rfl := len0 (rz.length.symm.trans l2)
      cases r with | cons r0 r =>
        cases r with | cons r1 r =>
          cases r
          cases rz
          exact ⟨[u0, u1], rfl, (.cons r0 (.cons r1 .nil))⟩) all_nilQ)⟩
theorem D_1 : InitX K mg (He.ga K "BitWriter") "BitWriter" "BitWriter.__init__" s_BitWriter___init__ ["self"] pats_BitWriter___init__ := by
  obtain ⟨fd0, F1⟩ : ∃ fd, FunD K "__init__" "BitWriter.__init__" (defArgs s_BitWriter___init__) (defBody s_BitWriter___init__) (defScope s_BitWriter___init__) [] [] (He.ma K (He.ga K "BitWriter") "__init__") fd := c.def_ 1 (d := dk1) rfl
  obtain ⟨kV, dc, pm, an, cd, ct, rfl⟩ := fnD_ex F1
  exact ⟨_, _, _, _, F1, He.mkr_ok (c.fact 1 8 (l := fa1) (f := (fun K => (He.Fa.mkr "BitWriter").ok K)) rfl rfl), (He.glo_ok X G (c.fact 1 9 (l := fa1) (f := (fun K => (He.Fa.glo "BitWriter").ok K)) rfl rfl)), (all_consQ (Bnd.all fun us ws vs zs l1 l2 r rz => by
      obtain ⟨u0, rfl⟩ := len1 (r.length.symm.trans l1)
      obtain rfl := len0 (rz.length.symm.trans l2)
      cases r with | cons r0 r =>
        cases r
        cases rz
        exact ⟨[u0], rfl, (.cons r0 .nil)⟩) all_nilQ)⟩
theorem D_2 : DefX K mg "_law_bits" s__law_bits ["value", "count"] pats__law_bits := by
  obtain ⟨fd0, F2⟩ : ∃ fd, FunD K "_law_bits" "_law_bits" (defArgs s__law_bits) (defBody s__law_bits) (defScope s__law_bits) [] [] (He.ga K "_law_bits") fd := c.def_ 2 (d := dk2) rfl
  obtain ⟨kV, dc, pm, an, cd, ct, rfl⟩ := fnD_ex F2
  exact ⟨_, _, _, _, F2, (He.glo_ok X G (c.fact 1 10 (l := fa1) (f := (fun K => (He.Fa.glo "_law_bits").ok K)) rfl rfl)), (all_consQ (Bnd.all fun us ws vs zs l1 l2 r rz => by
      obtain ⟨u0, u1, rfl⟩ := len2 (r.length.symm.trans l1)
      obtain rfl := len0 (rz.length.symm.trans l2)
      cases r with | cons r0 r =>
        cases r with | cons r1 r =>
          cases r
          cases rz
          exact ⟨[u0, u1], rfl, (.cons r0 (.cons r1 .nil))⟩) all_nilQ)⟩
theorem D_3 : DefX K mg "_last_bit" s__last_bit ["octet"] pats__last_bit := by
  obtain ⟨fd0, F3⟩ : ∃ fd, FunD K "_last_bit" "_last_bit" (defArgs s__last_bit) (defBody s__last_bit) (defScope s__last_bit) [] [] (He.ga K "_last_bit") fd := c.def_ 3 (d := dk3) rfl
  obtain ⟨kV, dc, pm, an, cd, ct, rfl⟩ := fnD_ex F3
  exact ⟨_, _, _, _, F3, (He.glo_ok X G (c.fact 1 11 (l := fa1) (f := (fun K => (He.Fa.glo "_last_bit").ok K)) rfl rfl)), (all_consQ (Bnd.all fun us ws vs zs l1 l2 r rz => by
      obtain ⟨u0, rfl⟩ := len1 (r.length.symm.trans l1)
      obtain rfl := len0 (rz.length.symm.trans l2)
      cases r with | cons r0 r =>
        cases r
        cases rz
        exact ⟨[u0], rfl, (.cons r0 .nil)⟩) all_nilQ)⟩
theorem D_4 : InitX K mg (He.ga K "BitReader") "BitReader" "BitReader.__init__" s_BitReader___init__ ["self", "octets"] pats_BitReader___init__ := by
  obtain ⟨fd0, F4⟩ : ∃ fd, FunD K "__init__" "BitReader.__init__" (defArgs s_BitReader___init__) (defBody s_BitReader___init__) (defScope s_BitReader___init__) [] [] (He.ma K (He.ga K "BitReader") "__init__") fd := c.def_ 4 (d := dk4) rfl
  obtain ⟨kV, dc, pm, an, cd, ct, rfl⟩ := fnD_ex F4
  exact ⟨_, _, _, _, F4, He.mkr_ok (c.fact 1 12 (l := fa1) (f := (fun K => (He.Fa.mkr "BitReader").ok K)) rfl rfl), (He.glo_ok X G (c.fact 1 13 (l := fa1) (f := (fun K => (He.Fa.glo "BitReader").ok K)) rfl rfl)), (all_consQ (Bnd.all fun us ws vs zs l1 l2 r rz => by
      obtain ⟨u0, u1, rfl⟩ := len2 (r.length.symm.trans l1)
      obtain rfl := len0 (rz.length.symm.trans l2)
      cases r with | cons r0 r =>
        cases r with | cons r1 r =>
          cases r
          cases rz
          exact ⟨[u0, u1], rfl, (.cons r0 (.cons r1 .nil))⟩) all_nilQ)⟩
theorem D_5 : DefX K mg "_law_cell" s__law_cell ["script", "k"] pats__law_cell := by
  obtain ⟨fd0, F5⟩ : ∃ fd, FunD K "_law_cell" "_law_cell" (defArgs s__law_cell) (defBody s__law_cell) (defScope s__law_cell) [] [] (He.ga K "_law_cell") fd := c.def_ 5 (d := dk5) rfl
  obtain ⟨kV, dc, pm, an, cd, ct, rfl⟩ := fnD_ex F5
  exact ⟨_, _, _, _, F5, (He.glo_ok X G (c.fact 1 14 (l := fa1) (f := (fun K => (He.Fa.glo "_law_cell").ok K)) rfl rfl)), (all_consQ (Bnd.all fun us ws vs zs l1 l2 r rz => by
      obtain ⟨u0, u1, rfl⟩ := len2 (r.length.symm.trans l1)
      obtain rfl := len0 (rz.length.symm.trans l2)
      cases r with | cons r0 r =>
        cases r with | cons r1 r =>
          cases r
          cases rz
          exact ⟨[u0, u1], rfl, (.cons r0 (.cons r1 .nil))⟩) all_nilQ)⟩
theorem D_6 : MethX K (He.ga K "BitWriter") "BitWriter._add" "_add" s_BitWriter__add ["self", "value", "count"] pats_BitWriter__add := by
  obtain ⟨fd0, F6⟩ : ∃ fd, FunD K "_add" "BitWriter._add" (defArgs s_BitWriter__add) (defBody s_BitWriter__add) (defScope s_BitWriter__add) [] [] (He.ma K (He.ga K "BitWriter") "_add") fd := c.def_ 6 (d := dk6) rfl
  obtain ⟨kV, dc, pm, an, cd, ct, rfl⟩ := fnD_ex F6
  exact ⟨_, _, _, _, F6, He.meth_ok (c.fact 1 15 (l := fa1) (f := (fun K => (He.Fa.meth "BitWriter" "_add").ok K)) rfl rfl), (all_consQ (Bnd.all fun us ws vs zs l1 l2 r rz => by
      obtain ⟨u0, u1, u2, rfl⟩ := len3 (r.length.symm.trans l1)
      obtain rfl := len0 (rz.length.symm.trans l2)
      cases r with | cons r0 r =>
        cases r with | cons r1 r =>
          cases r with | cons r2 r =>
            cases r
            cases rz
            exact ⟨[u0, u1, u2], rfl, (.cons r0 (.cons r1 (.cons r2 .nil)))⟩) all_nilQ)⟩
theorem D_7 : MethX K (He.ga K "BitWriter") "BitWriter.put" "put" s_BitWriter_put ["self", "value", "count"] pats_BitWriter_put := by
  obtain ⟨fd0, F7⟩ : ∃ fd, FunD K "put" "BitWriter.put" (defArgs s_BitWriter_put) (defBody s_BitWriter_put) (defScope s_BitWriter_put) [] [] (He.ma K (He.ga K "BitWriter") "put") fd := c.def_ 7 (d := dk7) rfl
  obtain ⟨kV, dc, pm, an, cd, ct, rfl⟩ := fnD_ex F7
  exact ⟨_, _, _, _, F7, He.meth_ok (c.fact 1 16 (l := fa1) (f := (fun K => (He.Fa.meth "BitWriter" "put").ok K)) rfl rfl), (all_consQ (Bnd.all fun us ws vs zs l1 l2 r rz => by
      obtain ⟨u0, u1, u2, rfl⟩ := len3 (r.length.symm.trans l1)
      obtain rfl := len0 (rz.length.symm.trans l2)
      cases r with | cons r0 r =>
        cases r with | cons r1 r =>
          cases r with | cons r2 r =>
            cases r
            cases rz
            exact ⟨[u0, u1, u2], rfl, (.cons r0 (.cons r1 (.cons r2 .nil)))⟩) all_nilQ)⟩
theorem D_8 : MethX K (He.ga K "BitWriter") "BitWriter.octets" "octets" s_BitWriter_octets ["self"] pats_BitWriter_octets := by
  obtain ⟨fd0, F8⟩ : ∃ fd, FunD K "octets" "BitWriter.octets" (defArgs s_BitWriter_octets) (defBody s_BitWriter_octets) (defScope s_BitWriter_octets) [] [] (He.ma K (He.ga K "BitWriter") "octets") fd := c.def_ 8 (d := dk8) rfl
  obtain ⟨kV, dc, pm, an, cd, ct, rfl⟩ := fnD_ex F8
  exact ⟨_, _, _, _, F8, He.meth_ok (c.fact 1 17 (l := fa1) (f := (fun K => (He.Fa.meth "BitWriter" "octets").ok K)) rfl rfl), (all_consQ (Bnd.all fun us ws vs zs l1 l2 r rz => by
      obtain ⟨u0, rfl⟩ := len1 (r.length.symm.trans l1)
      obtain rfl := len0 (rz.length.symm.trans l2)
      cases r with | cons r0 r =>
        cases r
        cases rz
        exact ⟨[u0], rfl, (.cons r0 .nil)⟩) all_nilQ)⟩
theorem D_9 : MethX K (He.ga K "BitWriter") "BitWriter.put_ue" "put_ue" s_BitWriter_put_ue ["self", "value"] pats_BitWriter_put_ue := by
  obtain ⟨fd0, F9⟩ : ∃ fd, FunD K "put_ue" "BitWriter.put_ue" (defArgs s_BitWriter_put_ue) (defBody s_BitWriter_put_ue) (defScope s_BitWriter_put_ue) [] [] (He.ma K (He.ga K "BitWriter") "put_ue") fd := c.def_ 9 (d := dk9) rfl
  obtain ⟨kV, dc, pm, an, cd, ct, rfl⟩ := fnD_ex F9
  exact ⟨_, _, _, _, F9, He.meth_ok (c.fact 1 18 (l := fa1) (f := (fun K => (He.Fa.meth "BitWriter" "put_ue").ok K)) rfl rfl), (all_consQ (Bnd.all fun us ws vs zs l1 l2 r rz => by
      obtain ⟨u0, u1, rfl⟩ := len2 (r.length.symm.trans l1)
      obtain rfl := len0 (rz.length.symm.trans l2)
      cases r with | cons r0 r =>
        cases r with | cons r1 r =>
          cases r
          cases rz
          exact ⟨[u0, u1], rfl, (.cons r0 (.cons r1 .nil))⟩) all_nilQ)⟩
theorem D_10 : MethX K (He.ga K "BitWriter") "BitWriter.put_se" "put_se" s_BitWriter_put_se ["self", "value"] pats_BitWriter_put_se := by
  obtain ⟨fd0, F10⟩ : ∃ fd, FunD K "put_se" "BitWriter.put_se" (defArgs s_BitWriter_put_se) (defBody s_BitWriter_put_se) (defScope s_BitWriter_put_se) [] [] (He.ma K (He.ga K "BitWriter") "put_se") fd := c.def_ 10 (d := dk10) rfl
  obtain ⟨kV, dc, pm, an, cd, ct, rfl⟩ := fnD_ex F10
  exact ⟨_, _, _, _, F10, He.meth_ok (c.fact 1 19 (l := fa1) (f := (fun K => (He.Fa.meth "BitWriter" "put_se").ok K)) rfl rfl), (all_consQ (Bnd.all fun us ws vs zs l1 l2 r rz => by
      obtain ⟨u0, u1, rfl⟩ := len2 (r.length.symm.trans l1)
      obtain rfl := len0 (rz.length.symm.trans l2)
      cases r with | cons r0 r =>
        cases r with | cons r1 r =>
          cases r
          cases rz
          exact ⟨[u0, u1], rfl, (.cons r0 (.cons r1 .nil))⟩) all_nilQ)⟩
theorem D_11 : DefX K mg "_law_put_refused" s__law_put_refused ["writer", "kind", "value", "count"] pats__law_put_refused := by
  obtain ⟨fd0, F11⟩ : ∃ fd, FunD K "_law_put_refused" "_law_put_refused" (defArgs s__law_put_refused) (defBody s__law_put_refused) (defScope s__law_put_refused) [] [] (He.ga K "_law_put_refused") fd := c.def_ 11 (d := dk11) rfl
  obtain ⟨kV, dc, pm, an, cd, ct, rfl⟩ := fnD_ex F11
  exact ⟨_, _, _, _, F11, (He.glo_ok X G (c.fact 1 20 (l := fa1) (f := (fun K => (He.Fa.glo "_law_put_refused").ok K)) rfl rfl)), (all_consQ (Bnd.all fun us ws vs zs l1 l2 r rz => by
      obtain ⟨u0, u1, u2, u3, rfl⟩ := len4 (r.length.symm.trans l1)
      obtain rfl := len0 (rz.length.symm.trans l2)
      cases r with | cons r0 r =>
        cases r with | cons r1 r =>
          cases r with | cons r2 r =>
            cases r with | cons r3 r =>
              cases r
              cases rz
              exact ⟨[u0, u1, u2, u3], rfl, (.cons r0 (.cons r1 (.cons r2 (.cons r3 .nil))))⟩) all_nilQ)⟩
theorem D_12 : DefX K mg "_law_packed" s__law_packed ["bits"] pats__law_packed := by
  obtain ⟨fd0, F12⟩ : ∃ fd, FunD K "_law_packed" "_law_packed" (defArgs s__law_packed) (defBody s__law_packed) (defScope s__law_packed) [] [] (He.ga K "_law_packed") fd := c.def_ 12 (d := dk12) rfl
  obtain ⟨kV, dc, pm, an, cd, ct, rfl⟩ := fnD_ex F12
  exact ⟨_, _, _, _, F12, (He.glo_ok X G (c.fact 1 21 (l := fa1) (f := (fun K => (He.Fa.glo "_law_packed").ok K)) rfl rfl)), (all_consQ (Bnd.all fun us ws vs zs l1 l2 r rz => by
      obtain ⟨u0, rfl⟩ := len1 (r.length.symm.trans l1)
      obtain rfl := len0 (rz.length.symm.trans l2)
      cases r with | cons r0 r =>
        cases r
        cases rz
        exact ⟨[u0], rfl, (.cons r0 .nil)⟩) all_nilQ)⟩
theorem D_13 : PropX K (He.ga K "BitWriter") "BitWriter.length" "length" s_BitWriter_length ["self"] pats_BitWriter_length := by
  obtain ⟨fd0, F13⟩ : ∃ fd, FunD K "length" "BitWriter.length" (defArgs s_BitWriter_length) (defBody s_BitWriter_length) (defScope s_BitWriter_length) [] [] (prA "BitWriter" "length" K) fd := c.def_ 13 (d := dk13) rfl
  obtain ⟨kV, dc, pm, an, cd, ct, rfl⟩ := fnD_ex F13
  obtain ⟨e1, e2, e3, rs, e4⟩ := prpB_ok (c.fact 1 22 (l := fa1) (f := (prpB "BitWriter" "length")) rfl rfl)
  exact ⟨_, _, _, _, _, F13, ⟨e1, e2, e3, _, e4⟩, FunD.bindsN F13 (fun _ _ _ _ _ _ us h => by obtain ⟨u0, rfl⟩ := len1 h; rfl)⟩
theorem D_14 : DefX K mg "_law_octets_refused" s__law_octets_refused ["octets"] pats__law_octets_refused := by
  obtain ⟨fd0, F14⟩ : ∃ fd, FunD K "_law_octets_refused" "_law_octets_refused" (defArgs s__law_octets_refused) (defBody s__law_octets_refused) (defScope s__law_octets_refused) [] [] (He.ga K "_law_octets_refused") fd := c.def_ 14 (d := dk14) rfl
  obtain ⟨kV, dc, pm, an, cd, ct, rfl⟩ := fnD_ex F14
  exact ⟨_, _, _, _, F14, (He.glo_ok X G (c.fact 1 23 (l := fa1) (f := (fun K => (He.Fa.glo "_law_octets_refused").ok K)) rfl rfl)), (all_consQ (Bnd.all fun us ws vs zs l1 l2 r rz => by
      obtain ⟨u0, rfl⟩ := len1 (r.length.symm.trans l1)
      obtain rfl := len0 (rz.length.symm.trans l2)
      cases r with | cons r0 r =>
        cases r
        cases rz
        exact ⟨[u0], rfl, (.cons r0 .nil)⟩) all_nilQ)⟩
theorem D_15 : MethX K (He.ga K "BitReader") "BitReader._look" "_look" s_BitReader__look ["self", "place", "count"] pats_BitReader__look := by
  obtain ⟨fd0, F15⟩ : ∃ fd, FunD K "_look" "BitReader._look" (defArgs s_BitReader__look) (defBody s_BitReader__look) (defScope s_BitReader__look) [] [] (He.ma K (He.ga K "BitReader") "_look") fd := c.def_ 15 (d := dk15) rfl
  obtain ⟨kV, dc, pm, an, cd, ct, rfl⟩ := fnD_ex F15
  exact ⟨_, _, _, _, F15, He.meth_ok (c.fact 1 24 (l := fa1) (f := (fun K => (He.Fa.meth "BitReader" "_look").ok K)) rfl rfl), (all_consQ (Bnd.all fun us ws vs zs l1 l2 r rz => by
      obtain ⟨u0, u1, u2, rfl⟩ := len3 (r.length.symm.trans l1)
      obtain rfl := len0 (rz.length.symm.trans l2)
      cases r with | cons r0 r =>
        cases r with | cons r1 r =>
          cases r with | cons r2 r =>
            cases r
            cases rz
            exact ⟨[u0, u1, u2], rfl, (.cons r0 (.cons r1 (.cons r2 .nil)))⟩) all_nilQ)⟩
theorem D_16 : MethX K (He.ga K "BitReader") "BitReader._take" "_take" s_BitReader__take ["self", "count"] pats_BitReader__take := by
  obtain ⟨fd0, F16⟩ : ∃ fd, FunD K "_take" "BitReader._take" (defArgs s_BitReader__take) (defBody s_BitReader__take) (defScope s_BitReader__take) [] [] (He.ma K (He.ga K "BitReader") "_take") fd := c.def_ 16 (d := dk16) rfl
  obtain ⟨kV, dc, pm, an, cd, ct, rfl⟩ := fnD_ex F16
  exact ⟨_, _, _, _, F16, He.meth_ok (c.fact 1 25 (l := fa1) (f := (fun K => (He.Fa.meth "BitReader" "_take").ok K)) rfl rfl), (all_consQ (Bnd.all fun us ws vs zs l1 l2 r rz => by
      obtain ⟨u0, u1, rfl⟩ := len2 (r.length.symm.trans l1)
      obtain rfl := len0 (rz.length.symm.trans l2)
      cases r with | cons r0 r =>
        cases r with | cons r1 r =>
          cases r
          cases rz
          exact ⟨[u0, u1], rfl, (.cons r0 (.cons r1 .nil))⟩) all_nilQ)⟩
theorem D_17 : MethX K (He.ga K "BitReader") "BitReader.get" "get" s_BitReader_get ["self", "count"] pats_BitReader_get := by
  obtain ⟨fd0, F17⟩ : ∃ fd, FunD K "get" "BitReader.get" (defArgs s_BitReader_get) (defBody s_BitReader_get) (defScope s_BitReader_get) [] [] (He.ma K (He.ga K "BitReader") "get") fd := c.def_ 17 (d := dk17) rfl
  obtain ⟨kV, dc, pm, an, cd, ct, rfl⟩ := fnD_ex F17
  exact ⟨_, _, _, _, F17, He.meth_ok (c.fact 1 26 (l := fa1) (f := (fun K => (He.Fa.meth "BitReader" "get").ok K)) rfl rfl), (all_consQ (Bnd.all fun us ws vs zs l1 l2 r rz => by
      obtain ⟨u0, u1, rfl⟩ := len2 (r.length.symm.trans l1)
      obtain rfl := len0 (rz.length.symm.trans l2)
      cases r with | cons r0 r =>
        cases r with | cons r1 r =>
          cases r
          cases rz
          exact ⟨[u0, u1], rfl, (.cons r0 (.cons r1 .nil))⟩) all_nilQ)⟩
theorem D_18 : PropX K (He.ga K "BitReader") "BitReader.left" "left" s_BitReader_left ["self"] pats_BitReader_left := by
  obtain ⟨fd0, F18⟩ : ∃ fd, FunD K "left" "BitReader.left" (defArgs s_BitReader_left) (defBody s_BitReader_left) (defScope s_BitReader_left) [] [] (prA "BitReader" "left" K) fd := c.def_ 18 (d := dk18) rfl
  obtain ⟨kV, dc, pm, an, cd, ct, rfl⟩ := fnD_ex F18
  obtain ⟨e1, e2, e3, rs, e4⟩ := prpB_ok (c.fact 1 27 (l := fa1) (f := (prpB "BitReader" "left")) rfl rfl)
  exact ⟨_, _, _, _, _, F18, ⟨e1, e2, e3, _, e4⟩, FunD.bindsN F18 (fun _ _ _ _ _ _ us h => by obtain ⟨u0, rfl⟩ := len1 h; rfl)⟩
theorem D_19 : DefX K mg "_law_get_refused" s__law_get_refused ["reader", "count"] pats__law_get_refused := by
  obtain ⟨fd0, F19⟩ : ∃ fd, FunD K "_law_get_refused" "_law_get_refused" (defArgs s__law_get_refused) (defBody s__law_get_refused) (defScope s__law_get_refused) [] [] (He.ga K "_law_get_refused") fd := c.def_ 19 (d := dk19) rfl
  obtain ⟨kV, dc, pm, an, cd, ct, rfl⟩ := fnD_ex F19
  exact ⟨_, _, _, _, F19, (He.glo_ok X G (c.fact 1 28 (l := fa1) (f := (fun K => (He.Fa.glo "_law_get_refused").ok K)) rfl rfl)), (all_consQ (Bnd.all fun us ws vs zs l1 l2 r rz => by
      obtain ⟨u0, u1, rfl⟩ := len2 (r.length.symm.trans l1)
      obtain rfl := len0 (rz.length.symm.trans l2)
      cases r with | cons r0 r =>
        cases r with | cons r1 r =>
          cases r
          cases rz
          exact ⟨[u0, u1], rfl, (.cons r0 (.cons r1 .nil))⟩) all_nilQ)⟩
theorem R__law_draws (base : Heap) : CalX P w K mg base 1 "_law_draws" (sp__law_draws K (adK K)) pats__law_draws := ok__law_draws (AD := adK K) (D_0 X G c) (T_ X G c) 
theorem R_BitWriter___init__ (base : Heap) : MakX P w K mg base 1 "BitWriter" (adK K).c_BitWriter (sp_BitWriter___init__ K (adK K)) pats_BitWriter___init__ := ok_BitWriter___init__ (AD := adK K) (D_1 X G c) (T_ X G c) 
theorem R__law_bits (base : Heap) : CalX P w K mg base 1 "_law_bits" (sp__law_bits K (adK K)) pats__law_bits := ok__law_bits (AD := adK K) (D_2 X G c) (T_ X G c) 
theorem R__last_bit (base : Heap) : CalX P w K mg base 1 "_last_bit" (sp__last_bit K (adK K)) pats__last_bit := ok__last_bit (AD := adK K) (D_3 X G c) (T_ X G c) 
theorem R_BitReader___init__ (base : Heap) : MakX P w K mg base 2 "BitReader" (adK K).c_BitReader (sp_BitReader___init__ K (adK K)) pats_BitReader___init__ := ok_BitReader___init__ (AD := adK K) (D_4 X G c) (T_ X G c) (R__last_bit X G c base)
theorem R__law_cell (base : Heap) : CalX P w K mg base 1 "_law_cell" (sp__law_cell K (adK K)) pats__law_cell := ok__law_cell (AD := adK K) (D_5 X G c) (T_ X G c) 
theorem R_BitWriter__add (base : Heap) : MetX P w K mg base 1 (adK K).c_BitWriter "_add" (sp_BitWriter__add K (adK K)) pats_BitWriter__add := ok_BitWriter__add (AD := adK K) (D_6 X G c) (T_ X G c) 
theorem R_BitWriter_put (base : Heap) : MetX P w K mg base 2 (adK K).c_BitWriter "put" (sp_BitWriter_put K (adK K)) pats_BitWriter_put := ok_BitWriter_put (AD := adK K) (D_7 X G c) (T_ X G c) (R_BitWriter__add X G c base)
theorem R_BitWriter_octets (base : Heap) : MetX P w K mg base 1 (adK K).c_BitWriter "octets" (sp_BitWriter_octets K (adK K)) pats_BitWriter_octets := ok_BitWriter_octets (AD := adK K) (D_8 X G c) (T_ X G c) 
theorem R_BitWriter_put_ue (base : Heap) : MetX P w K mg base 2 (adK K).c_BitWriter "put_ue" (sp_BitWriter_put_ue K (adK K)) pats_BitWriter_put_ue := ok_BitWriter_put_ue (AD := adK K) (D_9 X G c) (T_ X G c) (R_BitWriter__add X G c base)
theorem R_BitWriter_put_se (base : Heap) : MetX P w K mg base 3 (adK K).c_BitWriter "put_se" (sp_BitWriter_put_se K (adK K)) pats_BitWriter_put_se := ok_BitWriter_put_se (AD := adK K) (D_10 X G c) (T_ X G c) (R_BitWriter_put_ue X G c base)
theorem R__law_put_refused (base : Heap) : CalX P w K mg base 4 "_law_put_refused" (sp__law_put_refused K (adK K)) pats__law_put_refused := ok__law_put_refused (AD := adK K) (D_11 X G c) (T_ X G c) (R_BitWriter_octets X G c base) (R_BitWriter_put X G c base) (R_BitWriter_put_ue X G c base) (R_BitWriter_put_se X G c base)
theorem R__law_packed (base : Heap) : CalX P w K mg base 1 "_law_packed" (sp__law_packed K (adK K)) pats__law_packed := ok__law_packed (AD := adK K) (D_12 X G c) (T_ X G c) 
theorem R_BitWriter_length (base : Heap) : PropY P w K mg base 1 (adK K).c_BitWriter "length" (sp_BitWriter_length K (adK K)) pats_BitWriter_length := ok_BitWriter_length (AD := adK K) (D_13 X G c) (T_ X G c) 
theorem R__law_octets_refused (base : Heap) : CalX P w K mg base 4 "_law_octets_refused" (sp__law_octets_refused K (adK K)) pats__law_octets_refused := ok__law_octets_refused (AD := adK K) (D_14 X G c) (T_ X G c) (R_BitReader___init__ X G c base)
theorem R_BitReader__look (base : Heap) : MetX P w K mg base 1 (adK K).c_BitReader "_look" (sp_BitReader__look K (adK K)) pats_BitReader__look := ok_BitReader__look (AD := adK K) (D_15 X G c) (T_ X G c) 
theorem R_BitReader__take (base : Heap) : MetX P w K mg base 2 (adK K).c_BitReader "_take" (sp_BitReader__take K (adK K)) pats_BitReader__take := ok_BitReader__take (AD := adK K) (D_16 X G c) (T_ X G c) (R_BitReader__look X G c base)
theorem R_BitReader_get (base : Heap) : MetX P w K mg base 3 (adK K).c_BitReader "get" (sp_BitReader_get K (adK K)) pats_BitReader_get := ok_BitReader_get (AD := adK K) (D_17 X G c) (T_ X G c) (R_BitReader__take X G c base)
theorem R_BitReader_left (base : Heap) : PropQ P w K mg base 1 (adK K).c_BitReader "left" (sp_BitReader_left K (adK K)) pats_BitReader_left := ok_BitReader_left (AD := adK K) (D_18 X G c) (T_ X G c) 
theorem R__law_get_refused (base : Heap) : CalX P w K mg base 4 "_law_get_refused" (sp__law_get_refused K (adK K)) pats__law_get_refused := ok__law_get_refused (AD := adK K) (D_19 X G c) (T_ X G c) (R_BitReader_left X G c base) (R_BitReader_get X G c base)
theorem law_fact {fa : Addr} (hfa : mg "law" = some (.ref fa)) :
    ∃ fd : FuncData, (∀ (s : Shared) (v : Value), BindsTo s fd ⟨[v], []⟩ [("script", v)]) ∧ ∀ base : Heap, K.In base → base.Ns mainGlobals mg → FnG P w K mg base CX0 5 fa fd ["script"] (spL K) := by
  have e := hfa.symm.trans (He.glo_ok X G (c.fact 1 29 (l := fa1) (f := (fun K => (He.Fa.glo "law").ok K)) rfl rfl))
  cases e
  obtain ⟨fd0, F20⟩ : ∃ fd, FunD K "law" "law" (defArgs s_law) (defBody s_law) (defScope s_law) [] [] (He.ga K "law") fd := c.def_ 20 (d := dk20) rfl
  have b := FunD.bindsA (ps := ["script"]) F20 fun _ _ _ _ _ _ us hl => match us, hl with | [_], _ => rfl
  refine ⟨fd0, fun s v => b s [v] rfl, fun base _ _ => (ok_law (AD := adK K) F20 (T_ X G c) (R__law_draws X G c base) (R__law_cell X G c base) (R_BitWriter___init__ X G c base) (R__law_bits X G c base) (R_BitWriter_put X G c base) (R__law_put_refused X G c base) (R_BitWriter_octets X G c base) (R_BitWriter_length X G c base) (R__law_packed X G c base) (R__law_octets_refused X G c base) (R_BitReader___init__ X G c base) (R_BitReader_get X G c base) (R__law_get_refused X G c base) (R_BitReader_left X G c base)).imp ?_⟩
  rintro vs H Q E ⟨a, xs, rfl, hs, hl, q⟩
  exact ⟨a, xs, rfl, hs, by rw [law_true xs hl]; exact cW_mk rfl, q⟩
end
end Vx
open PySem PySem.W PySem.Calls PyProof.Rows
set_option maxRecDepth 100000 in
set_option maxHeartbeats 0 in
theorem PySem.Challenge.cw_thaumatrope_k06_bits_refused_holds : PySem.Challenge.rw_thaumatrope_k06_bits_refused.Holds := by
  w_on; o_law
  refine HandSHeadRun.head_any (r := (PySem.W.OpenLaw.row PySem.Challenge.rw_thaumatrope_k06_bits_refused)) (q := view (PySem.W.OpenLaw.row PySem.Challenge.rw_thaumatrope_k06_bits_refused).prog [21]) (H := Vx.hkK) (ob := Vx.obK) (M := 20000) (loose := Vx.nms) (d := HandSHeadRun.topDef (PySem.W.OpenLaw.row PySem.Challenge.rw_thaumatrope_k06_bits_refused).prog 21) (kwd := []) Vx.obK_eq
    (by kernel_rfl) (fun s => by kernel_rfl) Vx.runK (by kernel_rfl) (by kernel_rfl) (by kernel_rfl) (by rfl) (by first | assumption | decide +kernel) (by decide +kernel) ⟨rfl, rfl, rfl, rfl, rfl, by decide +kernel⟩ ?hw ?hc
  case hw => w_witness2
  case hc =>
    refine Vx.walkK (l := PySem.Challenge.rw_thaumatrope_k06_bits_refused) (n := 63) (k := 5) (x := "script") rfl (by decide) (by kernel_rfl) ⟨rfl, by decide, by decide⟩ ?F
    intro w mg fa h Y G hmg0
    obtain ⟨K, KX, c⟩ := Y
    have hmg : mg ("law" : PySem.Str) = some (.ref fa) := by
      have e : (HandSHeadRun.topDef (PySem.W.OpenLaw.row PySem.Challenge.rw_thaumatrope_k06_bits_refused).prog 21).name = ("law" : PySem.Str) := by kernel_rfl
      rw [← e]
      exact hmg0
    obtain ⟨fd, hb, hF⟩ := Vx.law_fact (P := (PySem.W.OpenLaw.row PySem.Challenge.rw_thaumatrope_k06_bits_refused).prog) KX G c hmg
    exact ⟨K, fd, KX, hb, hF⟩
