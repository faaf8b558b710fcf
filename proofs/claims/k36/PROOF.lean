import PyProof.Rows.All
import Wide.All
import OpenK.AllK
import Wide.FinOn
import HandS.ForMost
import HandS.Codes
import HandS.Steps
import HandS.IsInst
import HandS.Property
import HandS.Wide
import HandS.WideBits
import HandS.Exc
import HandS.Defaults
import HandS.ExcOwn
import HandS.TryOnly
import HandS.WordsExc
import HandS.ExcIs
import HandS.MakeKwOnly
import HandS.RaiseMore
import HandS.Style
import HandS.Zip
import HandS.Iter
import HandS.Star
import HandS.Walk
import PySem.Challenge.RW_thaumatrope_k36_areas_of_values
set_option Elab.async false
set_option linter.all false
set_option maxRecDepth 100000
set_option maxHeartbeats 8000000
namespace Vx
open PySem PySem.Spec PyProof.Rows L2

/-! ### heaps -/
def SameX (m : Addr) (H H' : Hp) : Prop := ∀ b o, H b = some o → b ≠ m → H' b = some o
theorem gen_new {H H' : Hp} {p : Addr} {o : HO} (n : H p = none) (h : upd H p o = H') : Same H H' ∧ H' p = some o := by
  subst h
  exact ⟨fun b u e => by rw [upd_ne (ne_of_none e n)]; exact e, upd_same⟩
theorem gen_mut {H H' : Hp} {m : Addr} {o : HO} (h : upd H m o = H') : SameX m H H' ∧ H' m = some o := by
  subst h
  exact ⟨fun b u e n => by rw [upd_ne n]; exact e, upd_same⟩
theorem same_mut {H0 H H' : Hp} {m : Addr} (B : Same H0 H) (x : SameX m H H') (f : H0 m = none) : Same H0 H' :=
  fun b o e => x b o (B b o e) (ne_of_none e f)
theorem map_get {xs : List Int} {i : Nat} {x : V} (h : (xs.map V.int)[i]? = some x) : ∃ o, xs[i]? = some o ∧ x = .int o := by
  rw [List.getElem?_map] at h
  cases e : xs[i]? with
  | none => rw [e] at h; cases h
  | some z => rw [e] at h; exact ⟨z, rfl, (Option.some.inj h).symm⟩
theorem get_len {α : Type} {xs : List α} {i : Nat} {x : α} (h : xs[i]? = some x) : i < xs.length := (List.getElem?_eq_some_iff.mp h).1
theorem eq_int {Q : VK} {H : Hp} {a b : Int} (h : Q (.int a) H) (e : a = b) : Q (.int b) H := e ▸ h
theorem eq_bl {Q : VK} {H : Hp} {a b : Bool} (h : Q (.bl a) H) (e : a = b) : Q (.bl b) H := e ▸ h
theorem small {n : Nat} (h : n ≤ 1000000) : n < sizeLine := Nat.lt_of_le_of_lt h (by decide)
theorem smallE {n : Nat} (h : n ≤ 1000000) : n ≤ sizeLine := Nat.le_of_lt (small h)
theorem snoc_int {xs : List Int} {y : Int} {H : Hp} {p : Addr} (h : H p = some (.lst (xs.map V.int ++ [V.int y]))) : H p = some (.lst ((xs ++ [y]).map V.int)) := by
  rw [List.map_append]; exact h
theorem cat_int {xs ys : List Int} {H : Hp} {p : Addr} (h : H p = some (.lst (xs.map V.int ++ ys.map V.int))) : H p = some (.lst ((xs ++ ys).map V.int)) := by
  rw [List.map_append]; exact h
theorem cast_lst {xs ys : List Int} {H : Hp} {p : Addr} (h : H p = some (.lst (xs.map V.int))) (e : xs = ys) : H p = some (.lst (ys.map V.int)) := e ▸ h

/-! ### tests -/
theorem dT {p : Prop} [Decidable p] (h : decide p = true) : p := of_decide_eq_true h
theorem dF {p : Prop} [Decidable p] (h : ¬ decide p = true) : ¬ p := fun x => h (decide_eq_true x)
theorem iteD {p A B : Prop} [Decidable p] (h1 : p → A) (h2 : ¬ p → B) : if decide p = true then A else B := by
  by_cases h : p
  · rw [if_pos (decide_eq_true h)]; exact h1 h
  · rw [if_neg (fun x => h (of_decide_eq_true x))]; exact h2 h
theorem iteN {p A B : Prop} [Decidable p] (h1 : ¬ p → A) (h2 : p → B) : if (!decide p) = true then A else B := by
  by_cases h : p
  · rw [decide_eq_true h]; exact iteF (h2 h)
  · rw [decide_eq_false h]; exact iteT (h1 h)
theorem iteB {b : Bool} {A B : Prop} (h1 : b = true → A) (h2 : b = false → B) : if b = true then A else B := by
  cases b with
  | true => exact iteT (h1 rfl)
  | false => exact iteF (h2 rfl)
theorem iteBN {b : Bool} {A B : Prop} (h1 : b = false → A) (h2 : b = true → B) : if (!b) = true then A else B := by
  cases b with
  | true => exact iteF (h2 rfl)
  | false => exact iteT (h1 rfl)
theorem iteDT {p A B : Prop} [Decidable p] (h : p) (k : A) : if decide p = true then A else B := by
  rw [if_pos (decide_eq_true h)]; exact k
theorem iteDF {p A B : Prop} [Decidable p] (h : ¬ p) (k : B) : if decide p = true then A else B := by
  rw [if_neg (fun x => h (of_decide_eq_true x))]; exact k
theorem iteNT {p A B : Prop} [Decidable p] (h : ¬ p) (k : A) : if (!decide p) = true then A else B := iteN (fun _ => k) (fun x => (h x).elim)
theorem iteNF {p A B : Prop} [Decidable p] (h : p) (k : B) : if (!decide p) = true then A else B := iteN (fun x => (x h).elim) (fun _ => k)

/-! ### equality of lists of ints -/
theorem eqvAll_ints : ∀ xs ys : List Int, PyData.eqvAll (xs.map PyData.int) (ys.map PyData.int) = decide (xs = ys)
  | [], [] => by simp [PyData.eqvAll]
  | [], y :: ys => by simp [PyData.eqvAll]
  | x :: xs, [] => by simp [PyData.eqvAll]
  | x :: xs, y :: ys => by
    have ih := eqvAll_ints xs ys
    simp only [List.map_cons, PyData.eqvAll, PyData.eqv, ih]
    by_cases h : x = y <;> by_cases h2 : xs = ys <;> simp [h, h2]
end Vx

namespace Vx
open PySem PySem.Spec PyProof.Rows L2
section
variable {X : Cx}
def rEqLi (K : PySem.W.Frag) : R2 := fun x y H Q => ∃ (a b : Addr) (xs ys : List Int), x = .ref a ∧ y = .ref b ∧ SqL K H a (xs.map V.int) ∧ SqL K H b (ys.map V.int) ∧ Q (.bl (decide (xs = ys))) H
def rNeLi (K : PySem.W.Frag) : R2 := fun x y H Q => ∃ (a b : Addr) (xs ys : List Int), x = .ref a ∧ y = .ref b ∧ SqL K H a (xs.map V.int) ∧ SqL K H b (ys.map V.int) ∧ Q (.bl (!decide (xs = ys))) H
theorem dpAll_ints {K : PySem.W.Frag} {H : Hp} : ∀ xs : List Int, DpAll K H (xs.map V.int) (xs.map PyData.int)
  | [] => .nil
  | x :: xs => .cons (.int x) (dpAll_ints xs)
theorem dp_ints {K : PySem.W.Frag} {H : Hp} {a : Addr} {xs : List Int} (h : SqL K H a (xs.map V.int)) : Dp K H (.ref a) (.list (xs.map PyData.int)) := .lst h (dpAll_ints xs)
theorem canLay_ints : ∀ xs : List Int, PyData.canLayAll0 (xs.map PyData.int) = true
  | [] => by simp [PyData.canLayAll0]
  | x :: xs => by simp [PyData.canLayAll0, PyData.canLay0, canLay_ints xs]
theorem depth_ints : ∀ xs : List Int, PyData.depthAll (xs.map PyData.int) = 0
  | [] => by simp [PyData.depthAll]
  | x :: xs => by simp [PyData.depthAll, PyData.depth, depth_ints xs]
theorem shaped_ints (xs : List Int) : SeqAt.shaped (.list (xs.map PyData.int)) = true := by
  unfold SeqAt.shaped
  simp [PyData.canLay0, canLay_ints, PyData.depth, depth_ints]
theorem eqv_ints (xs ys : List Int) : PyData.eqv (.list (xs.map PyData.int)) (.list (ys.map PyData.int)) = decide (xs = ys) := by
  simp only [PyData.eqv]
  exact eqvAll_ints xs ys
theorem op_eqLi (hu : X.A.units + 64 < cLine) : OpR X (compareOp .Eq) (rEqLi X.K) := by
  intro pins s σ H x y v u Q I rx ry h
  obtain ⟨a, b, xs, ys, rfl, rfl, h1, h2, q⟩ := h
  exact op_eqD hu pins s σ H _ _ v u Q I rx ry ⟨_, _, dp_ints h1, dp_ints h2, shaped_ints xs, shaped_ints ys, by rw [eqv_ints]; exact q⟩
theorem op_neLi (hu : X.A.units + 64 < cLine) : OpR X (compareOp .NotEq) (rNeLi X.K) := by
  intro pins s σ H x y v u Q I rx ry h
  obtain ⟨a, b, xs, ys, rfl, rfl, h1, h2, q⟩ := h
  exact op_neD hu pins s σ H _ _ v u Q I rx ry ⟨_, _, dp_ints h1, dp_ints h2, shaped_ints xs, shaped_ints ys, by rw [eqv_ints]; exact q⟩

/-! ### items, slices, repetition, comprehensions of ints -/
def itI (xs : List Int) (i : Int) : Int := (atI xs i).getD 0
theorem atI_int {xs : List Int} {i : Int} (h : -(xs.length : Int) ≤ i ∧ i < xs.length) : atI (xs.map V.int) i = some (.int (itI xs i)) := by
  unfold itI atI
  rw [List.length_map]
  have hk : ∃ j, ixN xs.length i = some j ∧ j < xs.length := by
    unfold ixN
    by_cases h0 : 0 ≤ i
    · refine ⟨i.toNat, ?_, by omega⟩
      rw [if_pos h0, if_pos h.2]
    · refine ⟨(i + xs.length).toNat, ?_, by omega⟩
      rw [if_neg h0, if_pos h.1]
  obtain ⟨j, e, hj⟩ := hk
  rw [e]
  show (xs.map V.int)[j]? = some (V.int ((xs[j]?).getD 0))
  rw [List.getElem?_map, List.getElem?_eq_getElem hj] <;> rfl
def cutI (xs : List Int) (lo hi : Option Int) : List Int := (xs.drop (HT.sIx xs.length 0 lo)).take (HT.sIx xs.length xs.length hi - HT.sIx xs.length 0 lo)
theorem cut_int {xs : List Int} {lo hi : Option Int} {H : Hp} {p : Addr} (h : H p = some (.lst (cutV (xs.map V.int) lo hi))) : H p = some (.lst ((cutI xs lo hi).map V.int)) := by
  rw [h]
  unfold cutV cutI
  rw [List.length_map, List.map_take, List.map_drop]
def rep (xs : List Int) (k : Int) : List Int := (List.replicate k.toNat xs).flatten
theorem rep_int {xs : List Int} {k : Int} {H : Hp} {p : Addr} (h : H p = some (.lst (List.replicate k.toNat (xs.map V.int)).flatten)) : H p = some (.lst ((rep xs k).map V.int)) := by
  rw [h]
  unfold rep
  rw [List.map_flatten, List.map_replicate]
theorem divW_lit {i j : Int} (h : 0 < j) (h2 : j.natAbs.log2 < 9000) : CDivW i j := ⟨h, h2⟩
theorem divW_small {i j : Int} (h : 0 < j) (h2 : j < 2 ^ 128) : CDivW i j := wide_div h (show j.natAbs < 2 ^ 128 by omega) (by decide) (by decide)
theorem comp_list {xs : List Int} {i : Nat} {x y : Int} {f : Int → Int} {H : Hp} {D : Addr} (hi : xs[i]? = some x) (h : H D = some (.lst (((xs.take i).map f).map V.int ++ [V.int y]))) (e : f x = y) : H D = some (.lst (((xs.take (i + 1)).map f).map V.int)) := by
  rw [h, ← e, List.take_succ, hi, List.map_append, List.map_append] <;> rfl
theorem comp_done {xs : List Int} {f : Int → Int} {H : Hp} {D : Addr} (h : H D = some (.lst (((xs.take (xs.map V.int).length).map f).map V.int))) : H D = some (.lst ((xs.map f).map V.int)) := by
  rw [List.length_map, List.take_length] at h
  exact h
theorem comp_range {i : Nat} {y : Int} {f : Nat → Int} {H : Hp} {D : Addr} (h : H D = some (.lst (((List.range i).map f).map V.int ++ [V.int y]))) (e : f i = y) : H D = some (.lst (((List.range (i + 1)).map f).map V.int)) := by
  rw [h, ← e, List.range_succ, List.map_append, List.map_append] <;> rfl
theorem iteBT {b : Bool} {A B : Prop} (h : b = true) (k : A) : if b = true then A else B := by rw [if_pos h]; exact k
theorem iteBF {b : Bool} {A B : Prop} (h : b = false) (k : B) : if b = true then A else B := by rw [if_neg (by rw [h]; decide)]; exact k
theorem take_succ_get {α : Type} {xs : List α} {i : Nat} {x : α} (hi : xs[i]? = some x) : xs.take (i + 1) = xs.take i ++ [x] := by rw [List.take_succ, hi] <;> rfl
end

/-! ### defs of the module, as callers see them -/
section
variable {P : Program} {w : World} {K : PySem.W.Frag} {mg : Str → Option Value} {base : Heap}
structure DefIn (K : PySem.W.Frag) (mg : Str → Option Value) (x : Str) (st : Stmt) (ps : List Str) : Prop where
  ex : ∃ (f : Addr) (fd : FuncData), Fun K x x st f fd ∧ mg x = some (.ref f) ∧ Binds K fd ps []
structure Cal (P : Program) (w : World) (K : PySem.W.Frag) (mg : Str → Option Value) (base : Heap) (k : Nat) (x : Str) (sp : Sp) : Prop where
  ex : ∃ (f : Addr) (fd : FuncData) (ps : List Str), FnOk P w K mg base CX0 k f fd ps sp ∧ mg x = some (.ref f) ∧ PySem.W.keepIn K (.ref f) = true ∧ Binds K fd ps []
theorem DefIn.ok {x : Str} {st : Stmt} {N ps : List Str} {k : Nat} {sp : Sp} (D : DefIn K mg x st ps) (S : FnScope N ps (defScope st)) (len : ∀ vs H Q E, sp vs H Q E → vs.length = ps.length)
    (hbody : ∀ (f : Addr) (cdv : Value) (A : Around) (outer : List Env) (s : Shared) (H : Hp) (vs : List V) (Q : VK) (E : XK), Room k (A.deeper (envOfC x (defScope st) s.heap.objs.size f cdv)) → sp vs H Q E →
      ∃ t, PSs (cxOf CX0 P w K mg base N x (defScope st) f cdv A outer s H E).nox (defBody st) t ∧ t { nx := fun _ H' => Q .non H', rt := Q } (start N vs) H) : Cal P w K mg base (k + 1) x sp := by
  obtain ⟨f, fd, F, hm, b⟩ := D.ex
  exact ⟨f, fd, ps, F.ok S len (fun cdv A outer s H vs Q E hr h => hbody f cdv A outer s H vs Q E hr h), hm, F.kp, b⟩
end
section
variable {X : Cx} {k j : Nat} {x : Str} {sp : Sp} {p pos : Pos} {e : Expr} {es : List Expr} {t : TA}
theorem vx_call (c : Cal X.prog X.w X.K X.mg X.base k x sp) (hr : Room j X.A) (hk : k ≤ j) (hg : Gl X x) (ha : PA X (e :: es) t)
    (hdb : (x == ("__debug__" : Str)) = false := by decide) (he : starEach (e :: es) X.env = (false, eval e X.env) :: starEach es X.env := by rfl) (hpl : (backTo pos (starEach es X.env)).any (·.1) = false := by rfl) :
    PE X (.Call (.Name x p) (e :: es) [] pos) (tCall sp [] E0 t) := by
  obtain ⟨f, fd, ps, F, hm, kp, b⟩ := c.ex
  exact pe_call F (hr.mono hk) hg hm kp b .nil pass0 ha hdb he hpl
end
end Vx

namespace Vx
open PySem PySem.Spec PyProof.Rows L2
section
variable {σ : L2.St} {H : Hp} {ta tb : TE} {x y z : V} {t : TT}
theorem vv_and {a b : Bool} (h1 : Val ta σ H (.bl a)) (h2 : Val tb σ H (.bl b)) : Val (tAndV ta tb) σ H (.bl (a && b)) := fun Q q => h1 _ ⟨a, rfl, by
  cases a with
  | true => exact iteT (h2 Q q)
  | false => exact iteF q⟩
theorem vv_or {a b : Bool} (h1 : Val ta σ H (.bl a)) (h2 : Val tb σ H (.bl b)) : Val (tOrV ta tb) σ H (.bl (a || b)) := fun Q q => h1 _ ⟨a, rfl, by
  cases a with
  | true => exact iteT q
  | false => exact iteF (h2 Q q)⟩
theorem vv_not {a : Bool} (h1 : Val ta σ H (.bl a)) : Val (tNotV ta) σ H (.bl (!a)) := fun Q q => h1 _ ⟨a, rfl, q⟩
theorem vv_un {r : V → Hp → VK → Prop} (ha : Val ta σ H x) (hr : ∀ Q : VK, Q z H → r x H Q) : Val (tUn r ta) σ H z := fun Q q => ha _ (hr Q q)
theorem vv_cmp {p : Int → Int → Bool} (ha : Val ta σ H x) (hb : Val tb σ H y) (hr : ∀ Q : VK, Q z H → ∃ i j, x = .int i ∧ y = .int j ∧ Q (.bl (p i j)) H) : Val (tCmp p ta tb) σ H z := fun Q q => ha _ (hb _ (hr Q q))
theorem vv_call1 {r : List V → Hp → VK → Prop} (ha : Val ta σ H x) (hr : ∀ Q : VK, Q z H → r [x] H Q) : Val (tCB r (tCons ta tNil)) σ H z := fun Q q => ha _ (hr Q q)
theorem vt_cmp {b : Bool} (h : Val ta σ H (.bl b)) : Ans (tB ta) σ H b := fun Q q => h _ ⟨b, rfl, q⟩
theorem vt_val {b : Bool} (h : Val ta σ H (.bl b)) : Ans (tB ta) σ H b := fun Q q => h _ ⟨b, rfl, q⟩
theorem vt_int {i : Int} {K : PySem.W.Frag} (h : Val ta σ H (.int i)) : Ans (fun σ H Q => ta σ H fun x H' => ∃ k, TruV K x H' k ∧ Q k H') σ H (i != 0) := fun Q q => h _ ⟨_, rfl, q⟩
theorem vv_if {p : Prop} [Decidable p] {a b : Int} (ht : Ans t σ H (decide p)) (hx : Val ta σ H (.int a)) (hy : Val tb σ H (.int b)) : Val (tIf t ta tb) σ H (.int (if p then a else b)) := fun Q q => ht _ (by
  by_cases h : p
  · rw [if_pos h] at q; exact iteDT h (hx Q q)
  · rw [if_neg h] at q; exact iteDF h (hy Q q))
theorem vv_ifb {c : Bool} {a b : Int} (ht : Ans t σ H c) (hx : Val ta σ H (.int a)) (hy : Val tb σ H (.int b)) : Val (tIf t ta tb) σ H (.int (if c = true then a else b)) := fun Q q => ht _ (by
  cases c with
  | true => exact iteT (hx Q q)
  | false => exact iteF (hy Q q))
end
end Vx

namespace Vx
open PySem PySem.Spec PyProof.Rows L2
def rLenLi (K : PySem.W.Frag) : List V → Hp → VK → Prop := fun xs H Q => ∃ (p : Addr) (ns : List Int), xs = [.ref p] ∧ SqL K H p (ns.map V.int) ∧ Q (.int (ns.length : Int)) H
theorem call_lenLi {X : Cx} : CallR X (.builtin "len") (rLenLi X.K) := by
  intro pins s σ H xs us Q I r h
  obtain ⟨p, ns, rfl, hs, q⟩ := h
  exact call_len_seq pins s σ H _ us Q I r ⟨p, _, rfl, Or.inl hs, by rw [List.length_map]; exact q⟩
end Vx

namespace Vx
open PySem PySem.Spec PyProof.Rows L2
section
variable {X : Cx} {K : PySem.W.Frag}
theorem ix_listK (hK : X.K = K := by rfl) : IxR X (rIxL K) := hK ▸ ix_list
theorem sl_listK (hK : X.K = K := by rfl) : SlR X (rSlL K) := hK ▸ sl_list
theorem call_lenLiK (hK : X.K = K := by rfl) : CallR X (.builtin "len") (rLenLi K) := hK ▸ call_lenLi
theorem op_eqLiK (hu : X.A.units + 64 < cLine) (hK : X.K = K := by rfl) : OpR X (compareOp .Eq) (rEqLi K) := hK ▸ op_eqLi hu
theorem op_neLiK (hu : X.A.units + 64 < cLine) (hK : X.K = K := by rfl) : OpR X (compareOp .NotEq) (rNeLi K) := hK ▸ op_neLi hu
theorem pi_listK {tg l : Expr} {tl : TE} (hl : PE X l tl) (hK : X.K = K := by rfl) : PI X tg l (iList K tl) := hK ▸ pi_list hl
theorem cr_sumK (hc : X.calm = true) (hK : X.K = K := by rfl) : CallR X (.builtin "sum") (rSum K) := hK ▸ cr_sum hc
theorem cr_maxK (hc : X.calm = true) (hK : X.K = K := by rfl) : CallR X (.builtin "max") (rMax K) := hK ▸ cr_max hc
theorem cr_minK (hc : X.calm = true) (hK : X.K = K := by rfl) : CallR X (.builtin "min") (rMin K) := hK ▸ cr_min hc
end
end Vx

namespace Vx
open PySem PySem.Spec PyProof.Rows L2
theorem tyes_go {σ : L2.St} {H : Hp} {f g : Hp → Prop} (h : f H) : tYes σ H (fun b H3 => if b = true then f H3 else g H3) := by
  show if true = true then f H else g H
  exact iteT h
end Vx

/-! # second part: data of any depth, the stable heap G, the owned addresses O -/
namespace Vx
open PySem PySem.Spec PyProof.Rows L2
mutual
inductive Rp (H : Hp) : V → PyData → Prop
  | non : Rp H .non .none
  | bl (b : Bool) : Rp H (.bl b) (.bool b)
  | int (i : Int) : Rp H (.int i) (.int i)
  | str (x : Str) : Rp H (.str x) (.str x)
  | lst {a : Addr} {xs : List V} {ds : List PyData} : H a = some (.lst xs) → RpAll H xs ds → Rp H (.ref a) (.list ds)
  | tup {a : Addr} {xs : List V} {ds : List PyData} : H a = some (.tup xs) → RpAll H xs ds → Rp H (.ref a) (.tuple ds)
inductive RpAll (H : Hp) : List V → List PyData → Prop
  | nil : RpAll H [] []
  | cons {v : V} {vs : List V} {d : PyData} {ds : List PyData} : Rp H v d → RpAll H vs ds → RpAll H (v :: vs) (d :: ds)
end
mutual
theorem Rp.mono {H H' : Hp} (e : Same H H') : ∀ {v : V} {d : PyData}, Rp H v d → Rp H' v d
  | _, _, .non => .non
  | _, _, .bl b => .bl b
  | _, _, .int i => .int i
  | _, _, .str x => .str x
  | _, _, .lst h r => .lst (e _ _ h) (RpAll.mono e r)
  | _, _, .tup h r => .tup (e _ _ h) (RpAll.mono e r)
theorem RpAll.mono {H H' : Hp} (e : Same H H') : ∀ {vs : List V} {ds : List PyData}, RpAll H vs ds → RpAll H' vs ds
  | _, _, .nil => .nil
  | _, _, .cons a b => .cons (Rp.mono e a) (RpAll.mono e b)
end
mutual
theorem Rp.dp {K : PySem.W.Frag} {H : Hp} : ∀ {v : V} {d : PyData}, Rp H v d → Dp K H v d
  | _, _, .non => .non
  | _, _, .bl b => .bl b
  | _, _, .int i => .int i
  | _, _, .str x => .str x
  | _, _, .lst h r => .lst (SqL.of h) (RpAll.dp r)
  | _, _, .tup h r => .tup (SqT.of h) (RpAll.dp r)
theorem RpAll.dp {K : PySem.W.Frag} {H : Hp} : ∀ {vs : List V} {ds : List PyData}, RpAll H vs ds → DpAll K H vs ds
  | _, _, .nil => .nil
  | _, _, .cons a b => .cons (Rp.dp a) (RpAll.dp b)
end
theorem RpAll.append {H : Hp} : ∀ {xs ys : List V} {ds es : List PyData}, RpAll H xs ds → RpAll H ys es → RpAll H (xs ++ ys) (ds ++ es)
  | _, _, _, _, .nil, s => s
  | _, _, _, _, .cons r t, s => .cons r (RpAll.append t s)
theorem RpAll.ints {H : Hp} : ∀ xs : List Int, RpAll H (xs.map V.int) (xs.map PyData.int)
  | [] => .nil
  | x :: xs => .cons (.int x) (RpAll.ints xs)
theorem RpAll.bls {H : Hp} : ∀ xs : List Bool, RpAll H (xs.map V.bl) (xs.map PyData.bool)
  | [] => .nil
  | x :: xs => .cons (.bl x) (RpAll.bls xs)
theorem RpAll.one {H : Hp} {v : V} {d : PyData} (h : Rp H v d) : RpAll H [v] [d] := .cons h .nil
theorem RpAll.len {H : Hp} : ∀ {vs : List V} {ds : List PyData}, RpAll H vs ds → vs.length = ds.length
  | _, _, .nil => rfl
  | _, _, .cons _ t => by rw [List.length_cons, List.length_cons, RpAll.len t]
theorem RpAll.at {H : Hp} : ∀ {vs : List V} {ds : List PyData} {i : Nat} {v : V}, RpAll H vs ds → vs[i]? = some v → ∃ d, ds[i]? = some d ∧ Rp H v d
  | _, _, _, _, .nil, h => by simp at h
  | _, _, 0, _, .cons r _, h => by
    simp at h
    subst h
    exact ⟨_, rfl, r⟩
  | _, _, i + 1, _, .cons _ t, h => by
    obtain ⟨d, h1, h2⟩ := RpAll.at (i := i) t (by simpa using h)
    exact ⟨d, by simpa using h1, h2⟩
theorem RpAll.at' {H : Hp} : ∀ {vs : List V} {ds : List PyData} {i : Nat} {d : PyData}, RpAll H vs ds → ds[i]? = some d → ∃ v, vs[i]? = some v ∧ Rp H v d
  | _, _, _, _, .nil, h => by simp at h
  | _, _, 0, _, .cons r _, h => by
    simp at h
    subst h
    exact ⟨_, rfl, r⟩
  | _, _, i + 1, _, .cons _ t, h => by
    obtain ⟨v, h1, h2⟩ := RpAll.at' (i := i) t (by simpa using h)
    exact ⟨v, by simpa using h1, h2⟩
theorem RpAll.take {H : Hp} : ∀ (n : Nat) {vs : List V} {ds : List PyData}, RpAll H vs ds → RpAll H (vs.take n) (ds.take n)
  | 0, _, _, _ => by simpa using RpAll.nil
  | n + 1, _, _, .nil => by simpa using RpAll.nil
  | n + 1, _, _, .cons r t => .cons r (RpAll.take n t)
theorem RpAll.drop {H : Hp} : ∀ (n : Nat) {vs : List V} {ds : List PyData}, RpAll H vs ds → RpAll H (vs.drop n) (ds.drop n)
  | 0, _, _, r => r
  | n + 1, _, _, .nil => by simpa using RpAll.nil
  | n + 1, _, _, .cons r t => RpAll.drop n t
theorem RpAll.set {H : Hp} {v : V} {d : PyData} (h : Rp H v d) : ∀ (n : Nat) {vs : List V} {ds : List PyData}, RpAll H vs ds → RpAll H (vs.set n v) (ds.set n d)
  | _, _, _, .nil => .nil
  | 0, _, _, .cons _ t => .cons h t
  | n + 1, _, _, .cons r t => .cons r (RpAll.set h n t)
theorem RpAll.rep {H : Hp} {vs : List V} {ds : List PyData} (h : RpAll H vs ds) : ∀ n : Nat, RpAll H (List.replicate n vs).flatten (List.replicate n ds).flatten
  | 0 => by simpa using RpAll.nil
  | n + 1 => by
    rw [List.replicate_succ, List.flatten_cons, List.replicate_succ, List.flatten_cons]
    exact RpAll.append h (RpAll.rep h n)
theorem RpAll.get {α : Type} {f : α → PyData} {H : Hp} {vs : List V} {xs : List α} {i : Nat} {v : V} (r : RpAll H vs (xs.map f)) (h : vs[i]? = some v) : ∃ x, xs[i]? = some x ∧ Rp H v (f x) := by
  obtain ⟨d, h1, h2⟩ := RpAll.at r h
  rw [List.getElem?_map] at h1
  cases e : xs[i]? with
  | none => rw [e] at h1; cases h1
  | some x =>
    rw [e] at h1
    have : f x = d := Option.some.inj h1
    exact ⟨x, rfl, this ▸ h2⟩
/-- the item at an index, data -/
theorem RpAll.ix {α : Type} {f : α → PyData} {H : Hp} {vs : List V} {xs : List α} {k : Int} (r : RpAll H vs (xs.map f)) (h : -(xs.length : Int) ≤ k ∧ k < xs.length) : ∃ v x, atI vs k = some v ∧ atI xs k = some x ∧ Rp H v (f x) := by
  have hl : vs.length = xs.length := by rw [r.len, List.length_map]
  have hk : ∃ j, ixN xs.length k = some j ∧ j < xs.length := by
    unfold ixN
    by_cases h0 : 0 ≤ k
    · refine ⟨k.toNat, ?_, by omega⟩
      rw [if_pos h0, if_pos h.2]
    · refine ⟨(k + xs.length).toNat, ?_, by omega⟩
      rw [if_neg h0, if_pos h.1]
  obtain ⟨j, e, hj⟩ := hk
  have hx := List.getElem?_eq_getElem hj
  obtain ⟨v, h1, h2⟩ := RpAll.at' (i := j) (d := f xs[j]) r (by rw [List.getElem?_map, hx] <;> rfl)
  refine ⟨v, xs[j], ?_, ?_, h2⟩
  · unfold atI
    rw [hl, e]
    exact h1
  · unfold atI
    rw [e]
    exact hx

/-! ### types -/
def encL {α : Type} (f : α → PyData) (xs : List α) : PyData := .list (xs.map f)
def encT2 {α β : Type} (f : α → PyData) (g : β → PyData) (p : α × β) : PyData := .tuple [f p.1, g p.2]
def encT3 {α β γ : Type} (f : α → PyData) (g : β → PyData) (h : γ → PyData) (p : α × β × γ) : PyData := .tuple [f p.1, g p.2.1, h p.2.2]
def encT4 {α β γ δ : Type} (f : α → PyData) (g : β → PyData) (h : γ → PyData) (i : δ → PyData) (p : α × β × γ × δ) : PyData := .tuple [f p.1, g p.2.1, h p.2.2.1, i p.2.2.2]
structure EncOk {α : Type} [DecidableEq α] (n : Nat) (f : α → PyData) : Prop where
  lay : ∀ x, PyData.canLay0 (f x) = true
  dep : ∀ x, PyData.depth (f x) ≤ n
  eqv : ∀ x y, PyData.eqv (f x) (f y) = decide (x = y)
theorem encOk_int : EncOk 0 PyData.int := ⟨fun _ => by simp [PyData.canLay0], fun _ => by simp [PyData.depth], fun x y => by simp [PyData.eqv]; by_cases h : x = y <;> simp [h]⟩
theorem encOk_bool : EncOk 0 PyData.bool := ⟨fun _ => by simp [PyData.canLay0], fun _ => by simp [PyData.depth], fun x y => by cases x <;> cases y <;> simp [PyData.eqv]⟩
section
variable {α β γ δ : Type} [DecidableEq α] [DecidableEq β] [DecidableEq γ] [DecidableEq δ] {n m l o : Nat} {f : α → PyData} {g : β → PyData} {h : γ → PyData} {i : δ → PyData}
theorem lay_map (ok : EncOk n f) : ∀ xs : List α, PyData.canLayAll0 (xs.map f) = true
  | [] => by simp [PyData.canLayAll0]
  | x :: xs => by simp [PyData.canLayAll0, ok.lay x, lay_map ok xs]
theorem dep_map (ok : EncOk n f) : ∀ xs : List α, PyData.depthAll (xs.map f) ≤ n
  | [] => by simp [PyData.depthAll]
  | x :: xs => by
    have h1 := ok.dep x
    have h2 := dep_map ok xs
    simp only [List.map_cons, PyData.depthAll]
    omega
theorem eqv_map (ok : EncOk n f) : ∀ xs ys : List α, PyData.eqvAll (xs.map f) (ys.map f) = decide (xs = ys)
  | [], [] => by simp [PyData.eqvAll]
  | [], y :: ys => by simp [PyData.eqvAll]
  | x :: xs, [] => by simp [PyData.eqvAll]
  | x :: xs, y :: ys => by
    have ih := eqv_map ok xs ys
    simp only [List.map_cons, PyData.eqvAll, ok.eqv, ih]
    by_cases h : x = y <;> by_cases h2 : xs = ys <;> simp [h, h2]
theorem encOk_L (ok : EncOk n f) : EncOk (n + 1) (encL f) := ⟨fun xs => by simp [encL, PyData.canLay0, lay_map ok], fun xs => by
  have := dep_map ok xs
  simp only [encL, PyData.depth]
  omega, fun xs ys => by simp only [encL, PyData.eqv]; exact eqv_map ok xs ys⟩
theorem encOk_T2 (ok : EncOk n f) (ok2 : EncOk m g) : EncOk (max n m + 1) (encT2 f g) := ⟨fun x => by simp [encT2, PyData.canLay0, PyData.canLayAll0, ok.lay, ok2.lay], fun x => by
  have h1 := ok.dep x.1
  have h2 := ok2.dep x.2
  simp only [encT2, PyData.depth, PyData.depthAll]
  omega, fun x y => by
  obtain ⟨a, b⟩ := x
  obtain ⟨c, d⟩ := y
  simp only [encT2, PyData.eqv, PyData.eqvAll, ok.eqv, ok2.eqv, Prod.mk.injEq]
  by_cases h1 : a = c <;> by_cases h2 : b = d <;> simp [h1, h2]⟩
theorem encOk_T3 (ok : EncOk n f) (ok2 : EncOk m g) (ok3 : EncOk l h) : EncOk (max n (max m l) + 1) (encT3 f g h) := ⟨fun x => by simp [encT3, PyData.canLay0, PyData.canLayAll0, ok.lay, ok2.lay, ok3.lay], fun x => by
  have h1 := ok.dep x.1
  have h2 := ok2.dep x.2.1
  have h3 := ok3.dep x.2.2
  simp only [encT3, PyData.depth, PyData.depthAll]
  omega, fun x y => by
  obtain ⟨a, b, e⟩ := x
  obtain ⟨c, d, e'⟩ := y
  simp only [encT3, PyData.eqv, PyData.eqvAll, ok.eqv, ok2.eqv, ok3.eqv, Prod.mk.injEq]
  by_cases h1 : a = c <;> by_cases h2 : b = d <;> by_cases h3 : e = e' <;> simp [h1, h2, h3]⟩
theorem encOk_T4 (ok : EncOk n f) (ok2 : EncOk m g) (ok3 : EncOk l h) (ok4 : EncOk o i) : EncOk (max n (max m (max l o)) + 1) (encT4 f g h i) := ⟨fun x => by simp [encT4, PyData.canLay0, PyData.canLayAll0, ok.lay, ok2.lay, ok3.lay, ok4.lay], fun x => by
  have h1 := ok.dep x.1
  have h2 := ok2.dep x.2.1
  have h3 := ok3.dep x.2.2.1
  have h4 := ok4.dep x.2.2.2
  simp only [encT4, PyData.depth, PyData.depthAll]
  omega, fun x y => by
  obtain ⟨a, b, e, u⟩ := x
  obtain ⟨c, d, e', u'⟩ := y
  simp only [encT4, PyData.eqv, PyData.eqvAll, ok.eqv, ok2.eqv, ok3.eqv, ok4.eqv, Prod.mk.injEq]
  by_cases h1 : a = c <;> by_cases h2 : b = d <;> by_cases h3 : e = e' <;> by_cases h4 : u = u' <;> simp [h1, h2, h3, h4]⟩
end
section
variable {X : Cx} {α : Type} [DecidableEq α] {n : Nat} {f : α → PyData}
def rEqT (f : α → PyData) : R2 := fun x y H Q => ∃ (a b : α), Rp H x (f a) ∧ Rp H y (f b) ∧ Q (.bl (decide (a = b))) H
def rNeT (f : α → PyData) : R2 := fun x y H Q => ∃ (a b : α), Rp H x (f a) ∧ Rp H y (f b) ∧ Q (.bl (!decide (a = b))) H
theorem shaped_of (ok : EncOk n f) (hn : n ≤ 64) (a : α) : SeqAt.shaped (f a) = true := by
  unfold SeqAt.shaped
  have h := ok.dep a
  rw [ok.lay]
  simp
  omega
theorem op_eqT (ok : EncOk n f) (hu : X.A.units + 64 < cLine) (hn : n ≤ 64 := by decide) : OpR X (compareOp .Eq) (rEqT f) := by
  intro pins s σ H x y v u Q I rx ry h
  obtain ⟨a, b, h1, h2, q⟩ := h
  exact op_eqD hu pins s σ H _ _ v u Q I rx ry ⟨_, _, h1.dp, h2.dp, shaped_of ok hn a, shaped_of ok hn b, by rw [ok.eqv]; exact q⟩
theorem op_neT (ok : EncOk n f) (hu : X.A.units + 64 < cLine) (hn : n ≤ 64 := by decide) : OpR X (compareOp .NotEq) (rNeT f) := by
  intro pins s σ H x y v u Q I rx ry h
  obtain ⟨a, b, h1, h2, q⟩ := h
  exact op_neD hu pins s σ H _ _ v u Q I rx ry ⟨_, _, h1.dp, h2.dp, shaped_of ok hn a, shaped_of ok hn b, by rw [ok.eqv]; exact q⟩
end
section
variable {H : Hp} {v : V} {α β γ δ : Type} {f : α → PyData} {g : β → PyData} {h : γ → PyData} {i : δ → PyData}
theorem rp_int {x : Int} (r : Rp H v (.int x)) : v = .int x := by cases r; rfl
theorem rp_bool {x : Bool} (r : Rp H v (.bool x)) : v = .bl x := by cases r; rfl
theorem rp_str {x : Str} (r : Rp H v (.str x)) : v = .str x := by cases r; rfl
theorem rp_list {xs : List α} (r : Rp H v (encL f xs)) : ∃ a vs, v = .ref a ∧ H a = some (.lst vs) ∧ RpAll H vs (xs.map f) := by
  unfold encL at r
  cases r with
  | lst h1 h2 => exact ⟨_, _, rfl, h1, h2⟩
theorem rpAll_ints : ∀ {vs : List V} {xs : List Int}, RpAll H vs (xs.map PyData.int) → vs = xs.map V.int
  | _, [], .nil => rfl
  | _, x :: xs, .cons r t => by rw [rp_int r, rpAll_ints t] <;> rfl
theorem rp_ints {xs : List Int} (r : Rp H v (encL PyData.int xs)) : ∃ a, v = .ref a ∧ H a = some (.lst (xs.map V.int)) := by
  obtain ⟨a, vs, e, h1, h2⟩ := rp_list r
  rw [rpAll_ints h2] at h1
  exact ⟨a, e, h1⟩
theorem rp_tup2 {x : α × β} (r : Rp H v (encT2 f g x)) : ∃ a v1 v2, v = .ref a ∧ H a = some (.tup [v1, v2]) ∧ Rp H v1 (f x.1) ∧ Rp H v2 (g x.2) := by
  unfold encT2 at r
  cases r with
  | tup h1 h2 =>
    cases h2 with
    | cons a b =>
      cases b with
      | cons b c =>
        cases c
        exact ⟨_, _, _, rfl, h1, a, b⟩
theorem rp_tup3 {x : α × β × γ} (r : Rp H v (encT3 f g h x)) : ∃ a v1 v2 v3, v = .ref a ∧ H a = some (.tup [v1, v2, v3]) ∧ Rp H v1 (f x.1) ∧ Rp H v2 (g x.2.1) ∧ Rp H v3 (h x.2.2) := by
  unfold encT3 at r
  cases r with
  | tup h1 h2 =>
    cases h2 with
    | cons a b =>
      cases b with
      | cons b c =>
        cases c with
        | cons c d =>
          cases d
          exact ⟨_, _, _, _, rfl, h1, a, b, c⟩
theorem rp_mk_list {a : Addr} {vs : List V} {xs : List α} (h1 : H a = some (.lst vs)) (h2 : RpAll H vs (xs.map f)) : Rp H (.ref a) (encL f xs) := .lst h1 h2
theorem rp_mk_ints {a : Addr} {xs : List Int} (h1 : H a = some (.lst (xs.map V.int))) : Rp H (.ref a) (encL PyData.int xs) := .lst h1 (RpAll.ints xs)
theorem rp_mk2 {a : Addr} {v1 v2 : V} {x : α} {y : β} (h1 : H a = some (.tup [v1, v2])) (r1 : Rp H v1 (f x)) (r2 : Rp H v2 (g y)) : Rp H (.ref a) (encT2 f g (x, y)) := .tup h1 (.cons r1 (.cons r2 .nil))
theorem rp_mk3 {a : Addr} {v1 v2 v3 : V} {x : α} {y : β} {z : γ} (h1 : H a = some (.tup [v1, v2, v3])) (r1 : Rp H v1 (f x)) (r2 : Rp H v2 (g y)) (r3 : Rp H v3 (h z)) : Rp H (.ref a) (encT3 f g h (x, y, z)) := .tup h1 (.cons r1 (.cons r2 (.cons r3 .nil)))
end

/-! ### the two heaps -/
def SameXs (L : List Addr) (H H' : Hp) : Prop := ∀ b o, H b = some o → b ∉ L → H' b = some o
theorem SameXs.of {H H' : Hp} {m : Addr} (x : SameX m H H') : SameXs [m] H H' := fun b o e n => x b o e (fun z => n (by rw [z]; exact List.mem_cons_self))
theorem ni1 {b m : Addr} (h : b ≠ m) : b ∉ [m] := by simpa using h
theorem ni2 {b m n : Addr} (h : b ≠ m) (h2 : b ≠ n) : b ∉ [m, n] := by simp [h, h2]
theorem ni3 {b m n o : Addr} (h : b ≠ m) (h2 : b ≠ n) (h3 : b ≠ o) : b ∉ [m, n, o] := by simp [h, h2, h3]
theorem ni4 {b m n o p : Addr} (h : b ≠ m) (h2 : b ≠ n) (h3 : b ≠ o) (h4 : b ≠ p) : b ∉ [m, n, o, p] := by simp [h, h2, h3, h4]
def hideL (L : List Addr) (H : Hp) : Hp := fun b => if b ∈ L then none else H b
theorem hideL_same (L : List Addr) (H : Hp) : Same (hideL L H) H := fun b o e => by
  unfold hideL at e
  split at e
  · cases e
  · exact e
theorem hideL_in {L : List Addr} {H : Hp} {b : Addr} (h : b ∈ L) : hideL L H b = none := if_pos h
theorem hideL_out {L : List Addr} {H : Hp} {b : Addr} (h : b ∉ L) : hideL L H b = H b := if_neg h
/-- M: owned from outside; H0, G0: at the entry; G: what stays as it is; O: what may change -/
structure Sep (M : List Addr) (H0 G0 G H : Hp) (O : List Addr) : Prop where
  base : SameXs M H0 H
  pm : ∀ a ∈ M, H a ≠ none
  sG : Same G H
  g0 : Same G0 G
  gn : ∀ b, H0 b ≠ none → G0 b = none → G b = none
  ow : ∀ a ∈ O, G a = none ∧ H a ≠ none ∧ (a ∈ M ∨ H0 a = none)
theorem all_nil {P : Addr → Prop} : ∀ x ∈ ([] : List Addr), P x := fun x h => by cases h
theorem all_cons {P : Addr → Prop} {a : Addr} {l : List Addr} (h : P a) (t : ∀ x ∈ l, P x) : ∀ x ∈ a :: l, P x := fun x hx => by
  cases hx with
  | head => exact h
  | tail _ hx => exact t x hx
theorem some_ne {H : Hp} {a : Addr} {o : HO} (h : H a = some o) : H a ≠ none := by
  rw [h]
  exact fun z => nomatch z
theorem same_ne {H H' : Hp} {a : Addr} (e : Same H H') (h : H a ≠ none) : H' a ≠ none := by
  cases q : H a with
  | none => exact absurd q h
  | some o => exact some_ne (e a o q)
section
variable {M : List Addr} {H0 G0 G H H' : Hp} {O : List Addr} {p m : Addr} {o : HO}
theorem Sep.start (M : List Addr) (H : Hp) (hM : ∀ a ∈ M, H a ≠ none) : Sep M H (hideL M H) (hideL M H) H M :=
  ⟨fun _ _ e _ => e, hM, hideL_same M H, Same.refl _, fun _ _ e => e, fun a ha => ⟨hideL_in ha, hM a ha, .inl ha⟩⟩
theorem Sep.startG {G H : Hp} (e : Same G H) : Sep [] H G G H [] := ⟨fun _ _ e _ => e, all_nil, e, Same.refl _, fun _ _ e => e, fun a ha => by cases ha⟩
theorem Sep.start0 (H : Hp) : Sep [] H H H H [] := Sep.startG (Same.refl H)
theorem Sep.b0 (S : Sep [] H0 G0 G H O) : Same H0 H := fun b o e => S.base b o e List.not_mem_nil
theorem Sep.free (S : Sep M H0 G0 G H O) {q : Addr} (n : H q = none) : H0 q = none := by
  cases e : H0 q with
  | none => rfl
  | some o =>
    by_cases h : q ∈ M
    · exact absurd n (S.pm q h)
    · rw [S.base q o e h] at n
      cases n
theorem Sep.same (S : Sep M H0 G0 G H O) (e : Same H H') : Sep M H0 G0 G H' O :=
  ⟨fun b o h n => e b o (S.base b o h n), fun a ha => same_ne e (S.pm a ha), S.sG.trans e, S.g0, S.gn, fun a ha => ⟨(S.ow a ha).1, same_ne e (S.ow a ha).2.1, (S.ow a ha).2.2⟩⟩
theorem Sep.gfree (S : Sep M H0 G0 G H O) {q : Addr} (n : H q = none) : G q = none := by
  cases e : G q with
  | none => rfl
  | some o => rw [S.sG q o e] at n; cases n
theorem Sep.new (S : Sep M H0 G0 G H O) (n : H p = none) (e : Same H H') (h : H' p = some o) (hm : H0 p = none) : Sep M H0 G0 G H' (p :: O) := by
  have S1 := S.same e
  refine ⟨S1.base, S1.pm, S1.sG, S1.g0, S1.gn, fun a ha => ?_⟩
  cases ha with
  | head => exact ⟨S.gfree n, some_ne h, .inr hm⟩
  | tail _ ha => exact S1.ow a ha
theorem Sep.grow (S : Sep M H0 G0 G H O) (n : H p = none) (e : Same H H') (h : H' p = some o) (hm : H0 p = none) : ∃ G', Same G G' ∧ G' p = some o ∧ Sep M H0 G0 G' H' O := by
  have S1 := S.same e
  have ng := S.gfree n
  refine ⟨upd G p o, fun b u q => by rw [upd_ne (ne_of_none q ng)]; exact q, upd_same, S1.base, S1.pm, fun b u q => ?_, fun b u q => ?_, fun b hb gb => ?_, fun a ha => ?_⟩
  · by_cases z : b = p
    · subst z
      rw [upd_same] at q
      exact q ▸ h
    · rw [upd_ne z] at q
      exact S1.sG b u q
  · have := S.g0 b u q
    rw [upd_ne (ne_of_none this ng)]
    exact this
  · by_cases z : b = p
    · subst z
      exact absurd hm hb
    · rw [upd_ne z]
      exact S.gn b hb gb
  · have hne : a ≠ p := fun z => (S.ow a ha).2.1 (by rw [z]; exact n)
    rw [upd_ne hne]
    exact S1.ow a ha
theorem Sep.mut (S : Sep M H0 G0 G H O) {L : List Addr} (x : SameXs L H H') (hL : ∀ a ∈ L, a ∈ O) (hs : ∀ a ∈ L, H' a ≠ none) : Sep M H0 G0 G H' O := by
  have keep : ∀ a, H a ≠ none → H' a ≠ none := fun a h => by
    by_cases hb : a ∈ L
    · exact hs a hb
    · cases q : H a with
      | none => exact absurd q h
      | some o => exact some_ne (x a o q hb)
  refine ⟨fun b o e n => ?_, fun a ha => keep a (S.pm a ha), fun b o e => ?_, S.g0, S.gn, fun a ha => ⟨(S.ow a ha).1, keep a (S.ow a ha).2.1, (S.ow a ha).2.2⟩⟩
  · refine x b o (S.base b o e n) fun hb => ?_
    rcases (S.ow b (hL b hb)).2.2 with z | z
    · exact n z
    · rw [e] at z; cases z
  · refine x b o (S.sG b o e) fun hb => ?_
    have := (S.ow b (hL b hb)).1
    rw [e] at this
    cases this
theorem Sep.mut1 (S : Sep M H0 G0 G H O) (x : SameX m H H') (hm : m ∈ O) (h : H' m = some o) : Sep M H0 G0 G H' O :=
  S.mut (SameXs.of x) (all_cons hm all_nil) (all_cons (some_ne h) all_nil)
theorem Sep.sub (S : Sep M H0 G0 G H O) {O' : List Addr} (h : ∀ a ∈ O', a ∈ O) : Sep M H0 G0 G H O' := ⟨S.base, S.pm, S.sG, S.g0, S.gn, fun a ha => S.ow a (h a ha)⟩
/-- what was owned and is to stay as it is from now on -/
theorem Sep.freeze (S : Sep M H0 G0 G H O) {O' : List Addr} (hp : p ∈ O) (h : H p = some o) (hm : H0 p = none) (hO : ∀ a ∈ O', a ∈ O ∧ a ≠ p) : ∃ G', Same G G' ∧ G' p = some o ∧ Sep M H0 G0 G' H O' := by
  have ng := (S.ow p hp).1
  refine ⟨upd G p o, fun b u q => by rw [upd_ne (ne_of_none q ng)]; exact q, upd_same, S.base, S.pm, fun b u q => ?_, fun b u q => ?_, fun b hb gb => ?_, fun a ha => ?_⟩
  · by_cases z : b = p
    · subst z
      rw [upd_same] at q
      exact q ▸ h
    · rw [upd_ne z] at q
      exact S.sG b u q
  · have := S.g0 b u q
    rw [upd_ne (ne_of_none this ng)]
    exact this
  · by_cases z : b = p
    · subst z
      exact absurd hm hb
    · rw [upd_ne z]
      exact S.gn b hb gb
  · rw [upd_ne (hO a ha).2]
    exact S.ow a (hO a ha).1
/-- a callee that hands on data in a stable heap of its own -/
theorem Sep.step (S : Sep M H0 G0 G H O) {G' : Hp} (e : Same H H') (eG : Same G G') (sG : Same G' H') (hn : ∀ b, H b ≠ none → G b = none → G' b = none) : Sep M H0 G0 G' H' O := by
  have S1 := S.same e
  refine ⟨S1.base, S1.pm, sG, S.g0.trans eG, fun b hb gb => ?_, fun a ha => ⟨hn a (S.ow a ha).2.1 (S.ow a ha).1, (S1.ow a ha).2⟩⟩
  refine hn b (fun z => ?_) (S.gn b hb gb)
  exact hb (S.free z)
theorem Sep.hid (S : Sep M H0 G0 G H O) {L : List Addr} (h : ∀ a ∈ L, a ∈ O) : Same G (hideL L H) := fun b o e => by
  rw [hideL_out fun z => by
    have := (S.ow b (h b z)).1
    rw [e] at this
    cases this]
  exact S.sG b o e
end
end Vx

namespace Vx
open PySem PySem.Spec PyProof.Rows L2
/-! ### lists of plain things (f : V.int, V.bl, V.str) -/
section
variable {α : Type} {f : α → V} {H : Hp} {p : Addr}
theorem cat_map {xs ys : List α} (h : H p = some (.lst (xs.map f ++ ys.map f))) : H p = some (.lst ((xs ++ ys).map f)) := by
  rw [List.map_append]; exact h
theorem snoc_map {xs : List α} {y : α} (h : H p = some (.lst (xs.map f ++ [f y]))) : H p = some (.lst ((xs ++ [y]).map f)) := by
  rw [List.map_append]; exact h
def repL (xs : List α) (k : Int) : List α := (List.replicate k.toNat xs).flatten
theorem rep_map {xs : List α} {k : Int} (h : H p = some (.lst (List.replicate k.toNat (xs.map f)).flatten)) : H p = some (.lst ((repL xs k).map f)) := by
  rw [h]
  unfold repL
  rw [List.map_flatten, List.map_replicate]
def cutL (xs : List α) (lo hi : Option Int) : List α := (xs.drop (HT.sIx xs.length 0 lo)).take (HT.sIx xs.length xs.length hi - HT.sIx xs.length 0 lo)
theorem cut_map {xs : List α} {lo hi : Option Int} (h : H p = some (.lst (cutV (xs.map f) lo hi))) : H p = some (.lst ((cutL xs lo hi).map f)) := by
  rw [h]
  unfold cutV cutL
  rw [List.length_map, List.map_take, List.map_drop]
theorem cast_map {xs ys : List α} (h : H p = some (.lst (xs.map f))) (e : xs = ys) : H p = some (.lst (ys.map f)) := e ▸ h
theorem drop_map {xs : List α} (h : H p = some (.lst (xs.map f).dropLast)) : H p = some (.lst (xs.dropLast.map f)) := by
  rw [h, List.map_dropLast]
theorem ixN_some {n : Nat} {k : Int} (h : -(n : Int) ≤ k ∧ k < n) : ∃ j, ixN n k = some j ∧ j < n := by
  unfold ixN
  by_cases h0 : 0 ≤ k
  · exact ⟨k.toNat, by rw [if_pos h0, if_pos h.2], by omega⟩
  · exact ⟨(k + n).toNat, by rw [if_neg h0, if_pos h.1], by omega⟩
def itD [Inhabited α] (xs : List α) (k : Int) : α := (atI xs k).getD default
theorem atI_map [Inhabited α] {xs : List α} {k : Int} (h : -(xs.length : Int) ≤ k ∧ k < xs.length) : atI (xs.map f) k = some (f (itD xs k)) := by
  obtain ⟨j, e, hj⟩ := ixN_some h
  unfold itD atI
  rw [List.length_map, e]
  show (xs.map f)[j]? = some (f ((xs[j]?).getD default))
  rw [List.getElem?_map, List.getElem?_eq_getElem hj] <;> rfl
def setL (xs : List α) (k : Int) (y : α) : List α := xs.set ((ixN xs.length k).getD 0) y
theorem ixN_map {xs : List α} {k : Int} (h : -(xs.length : Int) ≤ k ∧ k < xs.length) : ixN (xs.map f).length k = some ((ixN xs.length k).getD 0) := by
  obtain ⟨j, e, hj⟩ := ixN_some h
  rw [List.length_map, e] <;> rfl
theorem set_map {xs : List α} {k : Int} {y : α} (h : H p = some (.lst ((xs.map f).set ((ixN xs.length k).getD 0) (f y)))) : H p = some (.lst ((setL xs k y).map f)) := by
  rw [h]
  unfold setL
  rw [List.map_set]
def lastD [Inhabited α] (xs : List α) : α := xs.getLastD default
theorem pop_map [Inhabited α] {xs : List α} (h : xs ≠ []) : (xs.map f)[(xs.map f).length - 1]? = some (f (lastD xs)) := by
  rw [← List.getLast?_eq_getElem?, List.getLast?_map]
  unfold lastD
  cases e : xs.getLast? with
  | none => exact absurd (List.getLast?_eq_none_iff.mp e) h
  | some y =>
    rw [List.getLastD_eq_getLast?, e] <;> rfl
end
/-! ### lists of data -/
section
variable {α β : Type} {f : α → PyData} {g : β → PyData} {G : Hp} {vs ws : List V} {xs ys : List α}
theorem app_map (a : RpAll G vs (xs.map f)) (b : RpAll G ws (ys.map f)) : RpAll G (vs ++ ws) ((xs ++ ys).map f) := by
  rw [List.map_append]; exact a.append b
theorem one_map {v : V} {y : α} (a : RpAll G vs (xs.map f)) (b : Rp G v (f y)) : RpAll G (vs ++ [v]) ((xs ++ [y]).map f) := by
  rw [List.map_append]; exact a.append (.one b)
theorem rep_all (k : Int) (a : RpAll G vs (xs.map f)) : RpAll G (List.replicate k.toNat vs).flatten ((repL xs k).map f) := by
  unfold repL
  rw [List.map_flatten, List.map_replicate]
  exact a.rep _
theorem cut_all (lo hi : Option Int) (a : RpAll G vs (xs.map f)) : RpAll G (cutV vs lo hi) ((cutL xs lo hi).map f) := by
  unfold cutV cutL
  rw [a.len, List.length_map, List.map_take, List.map_drop]
  exact (a.drop _).take _
theorem rp_cast {v : V} {d e : PyData} (r : Rp G v d) (h : d = e) : Rp G v e := h ▸ r
theorem comp_listD {i : Nat} {x : α} {y : β} {v : V} {h : α → β} (hi : xs[i]? = some x) (a : RpAll G vs (((xs.take i).map h).map g)) (r : Rp G v (g y)) (e : h x = y) : RpAll G (vs ++ [v]) (((xs.take (i + 1)).map h).map g) := by
  rw [take_succ_get hi, List.map_append, List.map_append]
  exact a.append (.one (e ▸ r))
theorem comp_rangeD {i : Nat} {y : β} {v : V} {h : Nat → β} (a : RpAll G vs (((List.range i).map h).map g)) (r : Rp G v (g y)) (e : h i = y) : RpAll G (vs ++ [v]) (((List.range (i + 1)).map h).map g) := by
  rw [List.range_succ, List.map_append, List.map_append]
  exact a.append (.one (e ▸ r))
theorem comp_doneD {n : Nat} {h : List α → List β} (hl : n = xs.length) (a : RpAll G vs ((h (xs.take n)).map g)) : RpAll G vs ((h xs).map g) := by
  rw [hl, List.take_length] at a
  exact a
theorem comp_listFD {i : Nat} {x : α} {y : β} {v : V} {h : α → β} {q : α → Bool} (hi : xs[i]? = some x) (hq : q x = true) (a : RpAll G vs ((((xs.take i).filter q).map h).map g)) (r : Rp G v (g y)) (e : h x = y) : RpAll G (vs ++ [v]) ((((xs.take (i + 1)).filter q).map h).map g) := by
  rw [take_succ_get hi, List.filter_append, List.filter_cons, if_pos hq, List.map_append, List.map_append]
  exact a.append (.one (e ▸ r))
theorem skip_listD {i : Nat} {x : α} {h : α → β} {q : α → Bool} (hi : xs[i]? = some x) (hq : q x = false) (a : RpAll G vs ((((xs.take i).filter q).map h).map g)) : RpAll G vs ((((xs.take (i + 1)).filter q).map h).map g) := by
  rw [take_succ_get hi, List.filter_append, List.filter_cons, if_neg (by rw [hq]; decide), List.filter_nil, List.append_nil]
  exact a
end
section
variable {α β : Type} {f : β → V} {H : Hp} {D : Addr} {xs : List α}
theorem compM_list {i : Nat} {x : α} {y : β} {h : α → β} (hi : xs[i]? = some x) (a : H D = some (.lst (((xs.take i).map h).map f ++ [f y]))) (e : h x = y) : H D = some (.lst (((xs.take (i + 1)).map h).map f)) := by
  rw [a, ← e, take_succ_get hi, List.map_append, List.map_append] <;> rfl
theorem compM_range {i : Nat} {y : β} {h : Nat → β} (a : H D = some (.lst (((List.range i).map h).map f ++ [f y]))) (e : h i = y) : H D = some (.lst (((List.range (i + 1)).map h).map f)) := by
  rw [a, ← e, List.range_succ, List.map_append, List.map_append] <;> rfl
theorem compM_done {n : Nat} {h : List α → List β} (hl : n = xs.length) (a : H D = some (.lst ((h (xs.take n)).map f))) : H D = some (.lst ((h xs).map f)) := by
  rw [hl, List.take_length] at a
  exact a
theorem compM_listF {i : Nat} {x : α} {y : β} {h : α → β} {q : α → Bool} (hi : xs[i]? = some x) (hq : q x = true) (a : H D = some (.lst ((((xs.take i).filter q).map h).map f ++ [f y]))) (e : h x = y) : H D = some (.lst ((((xs.take (i + 1)).filter q).map h).map f)) := by
  rw [a, ← e, take_succ_get hi, List.filter_append, List.filter_cons, if_pos hq, List.map_append, List.map_append] <;> rfl
theorem skipM_list {i : Nat} {x : α} {h : α → β} {q : α → Bool} (hi : xs[i]? = some x) (hq : q x = false) (a : H D = some (.lst ((((xs.take i).filter q).map h).map f))) : H D = some (.lst ((((xs.take (i + 1)).filter q).map h).map f)) := by
  rw [a, take_succ_get hi, List.filter_append, List.filter_cons, if_neg (by rw [hq]; decide), List.filter_nil, List.append_nil]
theorem compM_rangeF {i : Nat} {y : β} {h : Nat → β} {q : Nat → Bool} (hq : q i = true) (a : H D = some (.lst ((((List.range i).filter q).map h).map f ++ [f y]))) (e : h i = y) : H D = some (.lst ((((List.range (i + 1)).filter q).map h).map f)) := by
  rw [a, ← e, List.range_succ, List.filter_append, List.filter_cons, if_pos hq, List.map_append, List.map_append] <;> rfl
theorem skipM_range {i : Nat} {h : Nat → β} {q : Nat → Bool} (hq : q i = false) (a : H D = some (.lst ((((List.range i).filter q).map h).map f))) : H D = some (.lst ((((List.range (i + 1)).filter q).map h).map f)) := by
  rw [a, List.range_succ, List.filter_append, List.filter_cons, if_neg (by rw [hq]; decide), List.filter_nil, List.append_nil]
end
/-! ### more rules -/
section
variable {X : Cx} {K : PySem.W.Frag}
theorem ix_tupK (hK : X.K = K := by rfl) : IxR X (rIxT K) := hK ▸ ix_tup
def rLenLK (K : PySem.W.Frag) : List V → Hp → VK → Prop := fun xs H Q => ∃ (p : Addr) (vs : List V) (n : Nat), xs = [.ref p] ∧ SqL K H p vs ∧ vs.length = n ∧ Q (.int (n : Int)) H
theorem call_lenLK (hK : X.K = K := by rfl) : CallR X (.builtin "len") (rLenLK K) := by
  subst hK
  intro pins s σ H xs us Q I r h
  obtain ⟨p, vs, n, rfl, hs, hn, q⟩ := h
  exact call_len_seq pins s σ H _ us Q I r ⟨p, _, rfl, Or.inl hs, by rw [hn]; exact q⟩
def rListLK (K : PySem.W.Frag) : List V → Hp → VK → Prop := fun xs H Q => ∃ (p : Addr) (vs : List V), xs = [.ref p] ∧ SqL K H p vs ∧ ∀ l, H l = none → Q (.ref l) (upd H l (.lst vs))
theorem call_listLK (hK : X.K = K := by rfl) : CallR X (.type "list") (rListLK K) := by
  subst hK
  intro pins s σ H xs us Q I r h
  obtain ⟨p, vs, rfl, hs, q⟩ := h
  exact call_list_of pins s σ H _ us Q I r ⟨p, _, rfl, Or.inl hs, q⟩
theorem cr_anyK (hc : X.calm = true) (hK : X.K = K := by rfl) : CallR X (.builtin "any") (rAny K) := hK ▸ cr_any hc
theorem cr_allK (hc : X.calm = true) (hK : X.K = K := by rfl) : CallR X (.builtin "all") (rAll K) := hK ▸ cr_all hc
theorem pi_tupK {tg l : Expr} {tl : TE} (hl : PE X l tl) (hK : X.K = K := by rfl) : PI X tg l (iTup K tl) := hK ▸ pi_tup hl
theorem pip {op : Operator} {r : R2} (h : OpR X (inplaceOp op) r) : PIp X op r := fun pins s σ H x y v u Q I rx ry q => h pins s σ H x y v u Q I rx ry q
/-- an item at a place from 0 on, by itself (ahead of o[i] op= e) -/
def rIxP (K : PySem.W.Frag) : R2 := fun x y H Q => ∃ (p : Addr) (xs : List V) (k : Int) (v : V), x = .ref p ∧ y = .int k ∧ SqL K H p xs ∧ 0 ≤ k ∧ k < 2 ^ 62 ∧ atI xs k = some v ∧ Q v H
theorem pget_list (hK : X.K = K := by rfl) : PGet X (rIxP K) := by
  subst hK
  intro pins s σ H o i ov iv Q I ro ri h
  obtain ⟨p, xs, k, v, rfl, rfl, hq, h0, h62, ha, q⟩ := h
  cases ro
  obtain ⟨t, rfl⟩ := ri
  obtain ⟨its, r, pl, hz⟩ := I.list hq
  obtain ⟨j, h1, h2, h3, h4, h5⟩ := atI_get ha
  obtain ⟨w, ew, rw'⟩ := r.get h2
  have hj : k.toNat = j := by
    rw [seqIndex_of h0 h5] at h1
    exact Option.some.inj h1
  exact getItem_listL pl.isList h0 (by omega) (by rw [hj]; simpa using ew) ⟨v, H, I, rw', q⟩
theorem tru_map {α : Type} [DecidableEq α] {f : α → V} {xs : List α} : (!decide (xs = [])) = !(xs.map f).isEmpty := by
  cases xs <;> simp
end
end Vx

namespace Vx
open PySem PySem.Spec PyProof.Rows L2
/-! ### objects -/
section
variable {M : List Addr} {H0 G0 G H H' : Hp} {O : List Addr} {p m : Addr} {o : HO}
theorem gen_obj {x dx : Addr} {o1 o2 : HO} (nx : H x = none) (nd : H dx = none) (ne : dx ≠ x) (h : upd (upd H dx o1) x o2 = H') : Same H H' ∧ H' x = some o2 := by
  subst h
  exact ⟨fun b u e => by rw [upd_ne (ne_of_none e nx), upd_ne (ne_of_none e nd)]; exact e, upd_same⟩
theorem sameX_of {m : Addr} (x : SameXs [m] H H') : SameX m H H' := fun b o e n => x b o e (by simpa using n)
theorem g_ne {a b : Addr} (h : G a = some o) (S : Sep M H0 G0 G H O) (hb : b ∈ O) : a ≠ b := fun z => by
  have := (S.ow b hb).1
  rw [← z, h] at this
  cases this
/-- an object whose making has laid some lists -/
theorem Sep.mutnew (S : Sep M H0 G0 G H O) {L : List Addr} (x : SameXs L H H') (hL : ∀ a ∈ L, a ∈ O) (hs : ∀ a ∈ L, H' a ≠ none) (hn : H p = none) (hp : H' p ≠ none) (h0 : H0 p = none) : Sep M H0 G0 G H' (p :: O) := by
  have S1 := S.mut x hL hs
  refine ⟨S1.base, S1.pm, S1.sG, S1.g0, S1.gn, all_cons ⟨S.gfree hn, hp, .inr h0⟩ S1.ow⟩
theorem Sep.init (S : Sep M H0 G0 G H O) (x : SameX m H H') (hm : m ∈ O) (h : H' m = some o) (L : List Addr) (hL : ∀ a ∈ L, H a = none ∧ H' a ≠ none ∧ H0 a = none) : Sep M H0 G0 G H' (L ++ O) := by
  have S1 := S.mut1 x hm h
  refine ⟨S1.base, S1.pm, S1.sG, S1.g0, S1.gn, fun a ha => ?_⟩
  rcases List.mem_append.mp ha with z | z
  · obtain ⟨h1, h2, h3⟩ := hL a z
    exact ⟨S.gfree h1, h2, .inr h3⟩
  · exact S1.ow a z
end
section
variable {P : Program} {w : World} {K : PySem.W.Frag} {mg : Str → Option Value} {base : Heap}
structure MethIn (K : PySem.W.Frag) (C : Addr) (q m : Str) (st : Stmt) (ps : List Str) : Prop where
  ex : ∃ (f : Addr) (fd : FuncData), Fun K m q st f fd ∧ Meth K C m f ∧ Binds K fd ps []
structure PropIn (K : PySem.W.Frag) (C : Addr) (q m : Str) (st : Stmt) (ps : List Str) : Prop where
  ex : ∃ (r f : Addr) (fd : FuncData), Fun K m q st f fd ∧ PropOf K C m r f ∧ Binds K fd ps []
structure InitIn (K : PySem.W.Frag) (mg : Str → Option Value) (C : Addr) (cn q : Str) (st : Stmt) (ps : List Str) : Prop where
  ex : ∃ (f : Addr) (fd : FuncData), Fun K "__init__" q st f fd ∧ Mk K C f ∧ mg cn = some (.ref C) ∧ Binds K fd ps []
structure MetC (P : Program) (w : World) (K : PySem.W.Frag) (mg : Str → Option Value) (base : Heap) (k : Nat) (C : Addr) (m : Str) (sp : Sp) : Prop where
  ex : ∃ (f : Addr) (fd : FuncData) (ps : List Str), Cls K C ∧ Meth K C m f ∧ FnOk P w K mg base CX0 k f fd ps sp ∧ Binds K fd ps []
structure PropC (P : Program) (w : World) (K : PySem.W.Frag) (mg : Str → Option Value) (base : Heap) (k : Nat) (C : Addr) (m : Str) (sp : Sp) : Prop where
  ex : ∃ (q f : Addr) (fd : FuncData) (ps : List Str), Cls K C ∧ PropOf K C m q f ∧ FnOk P w K mg base CX0 k f fd ps sp ∧ Binds K fd ps []
structure MakC (P : Program) (w : World) (K : PySem.W.Frag) (mg : Str → Option Value) (base : Heap) (k : Nat) (cn : Str) (C : Addr) (sp : Sp) : Prop where
  ex : ∃ (f : Addr) (fd : FuncData) (ps : List Str), Mk K C f ∧ FnOk P w K mg base CX0 k f fd ps sp ∧ mg cn = some (.ref C) ∧ Binds K fd ps []
abbrev Body (P : Program) (w : World) (K : PySem.W.Frag) (mg : Str → Option Value) (base : Heap) (x : Str) (st : Stmt) (N : List Str) (k : Nat) (sp : Sp) : Prop :=
  ∀ (f : Addr) (cdv : Value) (A : Around) (outer : List Env) (s : Shared) (H : Hp) (vs : List V) (Q : VK) (E : XK), Room k (A.deeper (envOfC x (defScope st) s.heap.objs.size f cdv)) → sp vs H Q E →
    ∃ t, PSs (cxOf CX0 P w K mg base N x (defScope st) f cdv A outer s H E).nox (defBody st) t ∧ t { nx := fun _ H' => Q .non H', rt := Q } (start N vs) H
theorem MethIn.ok {C : Addr} {q m : Str} {st : Stmt} {N ps : List Str} {k : Nat} {sp : Sp} (D : MethIn K C q m st ps) (c : Cls K C) (S : FnScope N ps (defScope st)) (len : ∀ vs H Q E, sp vs H Q E → vs.length = ps.length)
    (hbody : Body P w K mg base q st N k sp) : MetC P w K mg base (k + 1) C m sp := by
  obtain ⟨f, fd, F, me, b⟩ := D.ex
  exact ⟨f, fd, ps, c, me, F.ok S len (fun cdv A outer s H vs Q E hr h => hbody f cdv A outer s H vs Q E hr h), b⟩
theorem PropIn.ok {C : Addr} {q m : Str} {st : Stmt} {N ps : List Str} {k : Nat} {sp : Sp} (D : PropIn K C q m st ps) (c : Cls K C) (S : FnScope N ps (defScope st)) (len : ∀ vs H Q E, sp vs H Q E → vs.length = ps.length)
    (hbody : Body P w K mg base q st N k sp) : PropC P w K mg base (k + 1) C m sp := by
  obtain ⟨r, f, fd, F, me, b⟩ := D.ex
  exact ⟨r, f, fd, ps, c, me, F.ok S len (fun cdv A outer s H vs Q E hr h => hbody f cdv A outer s H vs Q E hr h), b⟩
theorem InitIn.ok {C : Addr} {cn q : Str} {st : Stmt} {N ps : List Str} {k : Nat} {sp : Sp} (D : InitIn K mg C cn q st ps) (S : FnScope N ps (defScope st)) (len : ∀ vs H Q E, sp vs H Q E → vs.length = ps.length)
    (hbody : Body P w K mg base q st N k sp) : MakC P w K mg base (k + 1) cn C sp := by
  obtain ⟨f, fd, F, me, hm, b⟩ := D.ex
  exact ⟨f, fd, ps, me, F.ok S len (fun cdv A outer s H vs Q E hr h => hbody f cdv A outer s H vs Q E hr h), hm, b⟩
end
section
variable {X : Cx} {k j : Nat} {C : Addr} {x m : Str} {sp : Sp} {p pos apos : Pos} {e o : Expr} {es : List Expr} {ta : TE} {t : TA}
theorem vx_call0 (c : Cal X.prog X.w X.K X.mg X.base k x sp) (hr : Room j X.A) (hk : k ≤ j) (hg : Gl X x) (hdb : (x == ("__debug__" : Str)) = false := by decide) : PE X (.Call (.Name x p) [] [] pos) (tCall sp [] E0 tNil) := by
  obtain ⟨f, fd, ps, F, hm, kp, b⟩ := c.ex
  exact pe_call0 F (hr.mono hk) hg hm kp b .nil pass0 hdb
theorem vx_make (c : MakC X.prog X.w X.K X.mg X.base k x C sp) (hr : Room j X.A) (hk : k + 1 ≤ j) (hg : Gl X x) (ha : PA X (e :: es) t)
    (hdb : (x == ("__debug__" : Str)) = false := by decide) (he : starEach (e :: es) X.env = (false, eval e X.env) :: starEach es X.env := by rfl) (hpl : (backTo pos (starEach es X.env)).any (·.1) = false := by rfl) :
    PE X (.Call (.Name x p) (e :: es) [] pos) (tMake C sp [] E0 t) := by
  obtain ⟨f, fd, ps, M, F, hm, b⟩ := c.ex
  exact pe_make M F (hr.mono hk) hg hm b .nil pass0 ha hdb he hpl
theorem vx_make0 (c : MakC X.prog X.w X.K X.mg X.base k x C sp) (hr : Room j X.A) (hk : k + 1 ≤ j) (hg : Gl X x) (hdb : (x == ("__debug__" : Str)) = false := by decide) :
    PE X (.Call (.Name x p) [] [] pos) (tMake C sp [] E0 tNil) := by
  obtain ⟨f, fd, ps, M, F, hm, b⟩ := c.ex
  exact pe_make0 M F (hr.mono hk) hg hm b .nil pass0 hdb
theorem vx_meth {pl : Sem Bool} (c : MetC X.prog X.w X.K X.mg X.base k C m sp) (hr : Room j X.A) (hk : k ≤ j) (he : PE X o ta) (ha : PA X (e :: es) t)
    (hst : starEach (e :: es) X.env = (false, eval e X.env) :: starEach es X.env := by rfl) (hpl : (backTo pos (starEach es X.env)).any (·.1) = false := by rfl)
    (ht : eval (.Call (.Attribute o m apos) (e :: es) [] pos) X.env = (do
      let ov ← eval o X.env
      standAt apos.atName
      let (f, first) ← holding [ov] (getMethod ov m pl)
      callWith pos f first (backTo pos (starEach (e :: es) X.env)) (backToKw pos (keywordEach [] X.env))) := by rfl) :
    PE X (.Call (.Attribute o m apos) (e :: es) [] pos) (tMeth C m sp [] E0 ta t) := by
  obtain ⟨f, fd, ps, hc, hm, F, b⟩ := c.ex
  exact pe_meth he hc hm F (hr.mono hk) b .nil pass0 ha hst hpl ht
theorem vx_meth0 {pl : Sem Bool} (c : MetC X.prog X.w X.K X.mg X.base k C m sp) (hr : Room j X.A) (hk : k ≤ j) (he : PE X o ta)
    (ht : eval (.Call (.Attribute o m apos) [] [] pos) X.env = (do
      let ov ← eval o X.env
      standAt apos.atName
      let (f, first) ← holding [ov] (getMethod ov m pl)
      callWith pos f first (backTo pos (starEach [] X.env)) (backToKw pos (keywordEach [] X.env))) := by rfl) :
    PE X (.Call (.Attribute o m apos) [] [] pos) (tMeth C m sp [] E0 ta tNil) := by
  obtain ⟨f, fd, ps, hc, hm, F, b⟩ := c.ex
  exact pe_meth0 he hc hm F (hr.mono hk) b .nil pass0 ht
theorem vx_prop (c : PropC X.prog X.w X.K X.mg X.base k C m sp) (hr : Room j X.A) (hk : k + 1 ≤ j) (he : PE X o ta) (hab : attributeBase o m X.env (eval o X.env) = eval o X.env) : PE X (.Attribute o m pos) (tProp C sp [] E0 ta) := by
  obtain ⟨q, f, fd, ps, hc, hp, F, b⟩ := c.ex
  exact pe_prop he hc hp F (hr.mono hk) b .nil pass0 hab
end
theorem iteBNT {b : Bool} {A B : Prop} (h : b = false) (k : A) : if (!b) = true then A else B := by rw [h]; exact iteT k
theorem iteNN {b : Bool} {A B : Prop} (h : if b = true then A else B) : if (!!b) = true then A else B := by rw [Bool.not_not]; exact h
theorem iteBNF {b : Bool} {A B : Prop} (h : b = true) (k : B) : if (!b) = true then A else B := by rw [h]; exact iteF k
theorem shl_side {i j : Int} (h0 : 0 ≤ j) (h1 : j ≤ 4096) (h2 : -(2 ^ 4096) < i) (h3 : i < 2 ^ 4096) : CShl i j := by
  obtain ⟨k, rfl⟩ := Int.eq_ofNat_of_zero_le h0
  exact shl_ok (n := 4096) (by omega) (by omega)
end Vx

namespace Vx
open PySem PySem.Spec PyProof.Rows L2
section
variable {X : Cx} {K : PySem.W.Frag}
theorem fldK {e : Expr} {f : Str} {pos : Pos} {ta : TE} (he : PE X e ta) (hb : attributeBase e f X.env (eval e X.env) = eval e X.env := by rfl) (hK : X.K = K := by rfl) : PE X (.Attribute e f pos) (tFld K ta f) := hK ▸ pe_fld he hb
theorem pg_tupK {es : List Expr} {k : Nat} {t : TGs} {n : Nat} {pos : Pos} (h : PGs X es t) (hc : X.calm = true := by rfl)
    (hn : (assignEach es X.env).length = n := by rfl) (hst : (assignEach es X.env).findIdx? (·.1) = none := by rfl) (hK : X.K = K := by rfl) : PG X (.Tuple es k pos) (gTup K n t) := hK ▸ pg_tup hc h hn hst
end
end Vx

namespace Vx
open PySem PySem.Spec PyProof.Rows L2
section
variable {α β : Type} {f : α → PyData} {g : β → PyData} {fv : α → V} {gv : β → V} {G : Hp} {vs ws : List V} {xs : List α} {ys : List β}
theorem big1 {n : Nat} (h : n ≤ 1000000) : n ≤ sizeLine := smallE h
theorem cat_len (a : RpAll G vs (xs.map f)) (b : RpAll G ws (ys.map g)) (h : xs.length + ys.length ≤ 1000000) : vs.length + ws.length ≤ sizeLine := by
  rw [a.len, b.len, List.length_map, List.length_map]; exact smallE h
theorem cat_lenM (h : xs.length + ys.length ≤ 1000000) : (xs.map fv).length + (ys.map gv).length ≤ sizeLine := by
  rw [List.length_map, List.length_map]; exact smallE h
theorem rep_len {k : Nat} (a : RpAll G vs (xs.map f)) (h : xs.length * k ≤ 1000000) : vs.length * k ≤ sizeLine := by
  rw [a.len, List.length_map]; exact smallE h
theorem rep_lenM {k : Nat} (h : xs.length * k ≤ 1000000) : (xs.map fv).length * k ≤ sizeLine := by
  rw [List.length_map]; exact smallE h
theorem app_len (a : RpAll G vs (xs.map f)) (h : xs.length ≤ 1000000) : vs.length < sizeLine := by
  rw [a.len, List.length_map]; exact small h
theorem app_lenM (h : xs.length ≤ 1000000) : (xs.map fv).length < sizeLine := by
  rw [List.length_map]; exact small h
theorem cutL_len {α : Type} (xs : List α) (lo hi : Option Int) : (cutL xs lo hi).length ≤ xs.length := by
  unfold cutL
  rw [List.length_take, List.length_drop]
  omega
theorem repL_len {α : Type} (xs : List α) (k : Int) : (repL xs k).length = k.toNat * xs.length := by
  unfold repL
  simp
end
end Vx
/-! # promises of defs that know that nothing is being shown (so that repr may be called) -/
namespace Vx
open PySem PySem.Spec PyProof.Rows L2
structure RoomG (k : Nat) (A : Around) : Prop extends Room k A where
  gd : A.guards = some []
theorem RoomG.low {j k : Nat} {A : Around} (r : RoomG k A) (h : j ≤ k) : RoomG j A := ⟨r.toRoom.mono h, r.gd⟩
theorem RoomG.one {k : Nat} {A : Around} (r : RoomG (k + 1) A) : RoomG k A.in1 := ⟨r.toRoom.in1, r.gd⟩
theorem make_gd {A : Around} (C : Addr) (us : List Value) (kw : List (Str × Value)) (h : A.guards = some []) : (A.under (.builtin "type.__call__" ⟨.ref C :: us, kw⟩)).guards = some [] := by
  obtain ⟨hd, d, fr, gs, u⟩ := A
  subst h
  simp [Around.under, Code.guards, Code.isGuard, guardIds, pushGuards]
theorem RoomG.made {k : Nat} {A : Around} (r : RoomG (k + 1) A) (C : Addr) (us : List Value) (kw : List (Str × Value)) : RoomG k (A.under (.builtin "type.__call__" ⟨.ref C :: us, kw⟩)) := ⟨r.toRoom.make C us kw, make_gd C us kw r.gd⟩
structure FnG (P : Program) (w : World) (K : PySem.W.Frag) (mg : Str → Option Value) (base : Heap) (cx : CXT) (k : Nat) (f : Addr) (fd : FuncData) (ps : List Str) (sp : Sp) : Prop where
  len : ∀ vs H Q E, sp vs H Q E → vs.length = ps.length
  run : ∀ (A : Around) (outer : List Env) (s : Shared) (H : Hp) (args : Args) (us : List Value) (vs : List V) (Q : VK) (E : XK), RoomG k A → Env0 P w K mg base A outer s H → BindsTo s fd args (ps.zip us) → Vals vs us → sp vs H Q E → codeAny (model P w) A (.call (.ref f) args) (CR cx outer P w H s Q E) s
section
variable {P : Program} {w : World} {K : PySem.W.Frag} {mg : Str → Option Value} {base : Heap} {cx : CXT} {j k : Nat} {f : Addr} {fd : FuncData} {ps : List Str} {sp sp' : Sp}
theorem FnG.imp (F : FnG P w K mg base cx k f fd ps sp) (h : ∀ vs H Q E, sp' vs H Q E → sp vs H Q E) : FnG P w K mg base cx k f fd ps sp' := ⟨fun vs H Q E q => F.len vs H Q E (h vs H Q E q), fun A o s H a us vs Q E r e b v q => F.run A o s H a us vs Q E r e b v (h vs H Q E q)⟩
/-- the body's promise is the def's -/
theorem FnG.body {x qual : Str} {params : Arguments} {body : List Stmt} {scope : Scope} {dvs : List V} {kws : List (Str × V)} {N : List Str} (F : FunD K x qual params body scope dvs kws f fd) (S : FnScope N ps scope) (len : ∀ vs H Q E, sp vs H Q E → vs.length = ps.length)
    (hb : ∀ (cdv : Value) (A : Around) (outer : List Env) (s : Shared) (H : Hp) (vs : List V) (Q : VK) (E : XK), RoomG k (A.deeper (envOfC qual scope s.heap.objs.size f cdv)) → sp vs H Q E →
      ∃ t, PSs (cxOf cx P w K mg base N qual scope f cdv A outer s H E) body t ∧ t { nx := fun _ H' => Q .non H', rt := Q } (start N vs) H) : FnG P w K mg base cx (k + 1) f fd ps sp := by
  obtain ⟨oc, od, dV, kV, doc, pm, an, cdv, ct, osl, rfl, lk, code, _, _⟩ := F.ex
  constructor
  · exact len
  · intro A outer s H args us vs Q E room env binds vals prom
    have nvs := len vs H Q E prom
    have kin : K.In s.heap := env.mod.kin.keeps fun b o q => (env.bs b o q).1
    have nolim : s.heap.NoLimit := env.mod.nolimit.keeps fun b o q => (env.bs b o q).1
    have kinds : ∀ q ∈ ps.zip us, scope.names.lookup q.1 = some .local ∨ (scope.names.lookup q.1 = some .cell ∧ ((cellsFrom (s.heap.objs.size + 1) scope.names []).lookup q.1).isSome = true) := by
      rintro ⟨n, v⟩ hq
      cases S.par n (List.of_mem_zip hq).1 with
      | inl z => exact .inl z
      | inr z => exact .inr ⟨z, PySem.W.cellsFrom_some _ _ _ (.inl z)⟩
    refine codeAny_call_function room.toRoom.depth (kin _ _ lk) rfl S.co S.gen rfl (PySem.W.codeRec_of kin code) (binds _ _ _ _ ?_)
    refine wpAny_newFunctionEnv_cells S.kind kinds ?_
    rintro _ rfl s1 made
    refine ⟨nolim.keeps made.toInCall.keep, codeAny_func ?_⟩
    obtain ⟨t, pss, start_⟩ := hb cdv A outer s H vs Q E ⟨room.toRoom.deeper _, room.gd⟩ prom
    have inv := inv_start (CX := cx) (E := E) S room.hd env nvs vals made
    have close : ∀ {τ : L2.St} {H2 : Hp} {v : V} {u : Value} {s2 : Shared}, Inv (cxOf cx P w K mg base N qual scope f cdv A outer s H E) [] τ H2 s2 → RelV v u → Q v H2 → CE outer P w H s Q u s2 := fun inv2 rel q => ⟨_, _, inv2.os, inv2.bare, inv2.base, inv2.hok, rel, q⟩
    refine wpAny_mono (pss.run [] s1 (start N vs) H _ inv start_) ?_ fun _ _ z => z
    intro flow s2 out
    cases flow with
    | next =>
      obtain ⟨τ, H2, inv2, q⟩ := out
      exact close (v := .non) (u := .none) inv2 rfl q
    | ret u =>
      obtain ⟨v, τ, H2, inv2, rel, q⟩ := out
      exact close inv2 rel q
    | brk =>
      obtain ⟨_, _, _, q⟩ := out
      exact q.elim
    | cont =>
      obtain ⟨_, _, _, q⟩ := out
      exact q.elim
/-- the same of a body that nothing leaves -/
theorem FnG.bodyN {x qual : Str} {params : Arguments} {body : List Stmt} {scope : Scope} {dvs : List V} {kws : List (Str × V)} {N : List Str} (F : FunD K x qual params body scope dvs kws f fd) (S : FnScope N ps scope) (len : ∀ vs H Q E, sp vs H Q E → vs.length = ps.length)
    (hb : ∀ (cdv : Value) (A : Around) (outer : List Env) (s : Shared) (H : Hp) (vs : List V) (Q : VK) (E : XK), RoomG k (A.deeper (envOfC qual scope s.heap.objs.size f cdv)) → sp vs H Q E →
      ∃ t, PSs (cxOf CX0 P w K mg base N qual scope f cdv A outer s H E).nox body t ∧ t { nx := fun _ H' => Q .non H', rt := Q } (start N vs) H) : FnG P w K mg base CX0 (k + 1) f fd ps sp :=
  FnG.body F S len fun cdv A outer s H vs Q E r p => by
    obtain ⟨t, h, q⟩ := hb cdv A outer s H vs Q E r p
    exact ⟨t, h.nox, q⟩
end
/-- where a law's call begins: an abstract heap that tells the script at most -/
theorem law_start {P : Program} {w : World} {K : PySem.W.Frag} {mg mb : Str → Option Value} {a : Addr} {s : Shared} {vs : List Value} {ns : List Int} (kin : K.In s.heap) (top : s.heap.Ns mainGlobals mg) (blt : s.heap.Ns builtinsNs mb) (boot : ∀ y : Str, y ≠ "__name__" → mb y = bootBuiltins y)
    (lim : s.heap.NoLimit) (gens : s.gens = #[]) (script : s.heap.get? a = some { cls := .type "list", data := .seq vs.toArray }) (whole : IntsAre vs ns) (short : ns.length ≤ sizeLine) :
    ∃ (H : Hp) (base : Heap), SqL K H a (ns.map V.int) ∧ K.In base ∧ base.Ns mainGlobals mg ∧ Env0 P w K mg base callerA [] s H ∧
      ∀ (Z : V → Prop) (u : Value) (s2 : Shared), CE [] P w H s (fun v _ => Z v) u s2 → (∃ v, RelV v u ∧ Z v) ∧ OldK s.heap s2.heap ∧ s2.os = s.os ∧ AllBare s2.gens := by
  have rel := vals_ints whole
  have lenV := whole.length
  -- any H that tells no more than the script, and that only where the written part does not hold it, will do
  have fits : ∀ H : Hp, (∀ b, H b = none ∨ ∃ o xs, H b = some (.frz o (.lst xs))) → SqL K H a (ns.map V.int) → HOk P w H s.heap → (∀ b, b ≠ a → H b = none) → (∀ o, K.lookup a = some o → H a = none) →
      ∃ (H : Hp) (base : Heap), SqL K H a (ns.map V.int) ∧ K.In base ∧ base.Ns mainGlobals mg ∧ Env0 P w K mg base callerA [] s H ∧
        ∀ (Z : V → Prop) (u : Value) (s2 : Shared), CE [] P w H s (fun v _ => Z v) u s2 → (∃ v, RelV v u ∧ Z v) ∧ OldK s.heap s2.heap ∧ s2.os = s.os ∧ AllBare s2.gens := by
    intro H only seq ok else_ apart
    have dictFree : ∀ (b : Addr) (o : Obj) (es : Array DictEntry) (n : Nat), s.heap.get? b = some o → o.data = .dict es n → H b = none := by
      intro b o es n e d
      by_cases z : b = a
      · subst z
        rw [script] at e
        injection e with e
        subst e
        cases d
      · exact else_ b z
    have nsOf : ∀ {b : Addr} {m : Str → Option Value}, s.heap.Ns b m → (hidT s.heap H).Ns b m := by
      rintro b m ⟨o, es, n, e, d, r⟩
      exact ⟨o, es, n, hidT_get e (dictFree b o es n e d), d, r⟩
    have kinB : K.In (hidT s.heap H) := by
      intro b o e
      refine hidT_get (kin b o e) ?_
      by_cases z : b = a
      · subst z
        exact apart o e
      · exact else_ b z
    obtain ⟨mc, lim1, lim2⟩ := lim
    refine ⟨H, hidT s.heap H, seq, kinB, nsOf top, ⟨rfl, ⟨kinB, nsOf top, ⟨mb, nsOf blt, boot⟩, mc, nsOf lim1, lim2⟩, fun b o e => of_hidT e, Nat.le_of_eq (hidT_size _ _), trivial, fun b hb => (nomatch (show b ∈ ([] : List Addr) from hb)), ok, .of_eq gens⟩, ?_⟩
    rintro Z u s2 ⟨v, H2, os, bare, un, ok2, r, z⟩
    refine ⟨⟨v, r, z⟩, OldK.of_keep fun b o e => ?_, os, bare⟩
    rcases only b with n | ⟨o1, xs, n⟩
    · exact un.keep b o e n (fun y => nomatch (show b ∈ ([] : List Addr) from y)) (fun y => nomatch y)
    · obtain ⟨e1, _⟩ := ok b _ n
      obtain ⟨e2, _⟩ := ok2 b _ (un.frzs b o1 _ n)
      rw [e] at e1
      injection e1 with e1
      subst e1
      exact e2
  cases kl : K.lookup a with
  | some o =>
    have e := kin a o kl
    rw [script] at e
    injection e with e
    subst e
    exact fits (fun _ => none) (fun _ => .inl rfl) (.inr ⟨_, vs.toArray, _, kl, rfl, rfl, rfl, by rw [List.size_toArray, lenV]; exact short, by simpa using rel⟩) (fun _ _ z => nomatch z) (fun _ _ => rfl) fun _ _ => rfl
  | none =>
    refine fits (fun b => if b = a then some (.frz { cls := .type "list", data := .seq vs.toArray } (.lst (ns.map V.int))) else none) ?_ (.inl (.inr ⟨_, if_pos rfl⟩)) ?_ (fun b n => if_neg n) fun o z => ?_
    · intro b
      by_cases z : b = a
      · exact .inr ⟨_, _, if_pos z⟩
      · exact .inl (if_neg z)
    · intro b u q
      by_cases z : b = a
      · subst z
        have q := (if_pos rfl).symm.trans q
        injection q with q
        subst q
        exact ⟨script, by rw [List.length_map]; exact short, vs, _, rel, script⟩
      · have q := (if_neg z).symm.trans q
        cases q
    · rw [kl] at z
      cases z
/-- the goal that the head leaves, from the law's promise; the script's numbers have at most 2 ^ 20 bits -/
theorem walkG {l : PySem.W.OpenLaw} {n k : Nat} {q : Program} {loose : List Str} {XP : (Str → Option Value) → Heap → Prop} {YP : World → Heap → Prop} {d : DefRec} {K : Params → PySem.W.Frag} {x : Str} (hn : l.most = some n) (hn2 : n ≤ sizeLine) (hdf : d.params.defaults = []) (room : Room k callerA)
    (hY : ∀ (w : World) (h : Heap), YP w h → (K w.params).In h)
    (F : ∀ (w : World) (mg : Str → Option Value) (fa : Addr) (h : Heap), (K w.params).In h → h.Ns mainGlobals mg → mg d.name = some (.ref fa) →
      ∃ fd : FuncData, (∀ (s : Shared) (u : Value), BindsTo s fd ⟨[u], []⟩ [(x, u)]) ∧ ∀ base : Heap, (K w.params).In base → base.Ns mainGlobals mg → FnG l.prog w (K w.params) mg base CX0 k fa fd [x] (fun vs H Q _ => ∃ (a : Addr) (ns : List Int), vs = [.ref a] ∧ SqL (K w.params) H a (ns.map V.int) ∧ ns.length ≤ n ∧ ∀ H', Q (.bl true) H')) :
    PySem.W.WalkO q loose XP YP l.row.toRowW d [] (fun f vs => PySem.call f vs) := by
  refine Att.attach_call hn hdf ?_
  intro w s₀ s₁ mg mb fa o pm cd doc a vs ns G Y _ _ _ hmg script whole short gens
  have kin := hY w _ Y
  obtain ⟨fd, bind, prom⟩ := F w mg fa _ kin G.T.g hmg
  obtain ⟨H, base, seq, kinB, nsB, env, fin⟩ := law_start (P := l.prog) (w := w) kin G.T.g G.T.b G.T.builtins G.T.nolimit gens script whole (Nat.le_trans short hn2)
  refine codeAny_mono ((prom base kinB nsB).run callerA [] s₁ H ⟨[.ref a], []⟩ [.ref a] [.ref a] (fun v _ => v = .bl true) (fun _ _ _ => False) ⟨room, rfl⟩ env (bind s₁ (.ref a)) (.cons rfl .nil) ⟨a, ns, rfl, seq, short, fun _ => rfl⟩) ?_
  intro r s2 out
  cases r with
  | error e => exact out.elim
  | ok flow =>
    cases flow with
    | ret u =>
      obtain ⟨⟨v, rv, z⟩, h1, h2, h3⟩ := fin (fun v => v = .bl true) u s2 out
      subst z
      obtain rfl : u = Value.bool true := rv
      exact ⟨rfl, h1, h2, h3⟩
    | next => exact out.elim
    | brk => exact out.elim
    | cont => exact out.elim
end Vx
/-! # third part: what a def computes, as a plain function with refusals -/
namespace Vx
open PySem PySem.Spec PyProof.Rows L2
inductive Rx (α : Type) where
  | ok (a : α)
  | er (e : Nat)
  | bad
def Rx.bind {α β : Type} (m : Rx α) (f : α → Rx β) : Rx β :=
  match m with
  | .ok a => f a
  | .er e => .er e
  | .bad => .bad
/-- what is wanted of an outcome -/
@[irreducible] def cW {α : Type} (m : Rx α) (K : α → Prop) (E : Nat → Prop) : Prop :=
  match m with
  | .ok a => K a
  | .er e => E e
  | .bad => False
def grd {α : Type} (p : Prop) [Decidable p] (m : Rx α) : Rx α := if p then m else .bad
/-- within a comprehension nothing may be raised -/
def noEr {α : Type} (m : Rx α) : Rx α :=
  match m with
  | .ok a => .ok a
  | _ => .bad
/-- what the clause does not name may not come -/
def tryR {α β : Type} (m : Rx α) (cs : List Nat) (f : α → Rx β) (h : Nat → Rx β) : Rx β :=
  match m with
  | .ok a => f a
  | .er e => if e ∈ cs then h e else .bad
  | .bad => .bad
def bnd {α β : Type} (a : α) (f : α → Rx β) : Rx β := f a
inductive Lp (σ ρ : Type) where
  | go (s : σ)
  | bk (s : σ)
  | rt (r : ρ)
def Lp.aft {σ ρ τ : Type} (l : Lp σ ρ) (kr : ρ → Rx τ) (k : σ → Rx τ) : Rx τ :=
  match l with
  | .go s => k s
  | .bk s => k s
  | .rt r => kr r
def forS {σ α : Type} : List α → σ → (σ → α → Rx σ) → Rx σ
  | [], s, _ => .ok s
  | x :: r, s, f => (f s x).bind fun s' => forS r s' f
def forR {σ α ρ : Type} : List α → σ → (σ → α → Rx (Lp σ ρ)) → Rx (Lp σ ρ)
  | [], s, _ => .ok (.go s)
  | x :: r, s, f => (f s x).bind fun l =>
    match l with
    | .go s' => forR r s' f
    | .bk s' => .ok (.go s')
    | .rt v => .ok (.rt v)
def whileR {σ ρ : Type} : Nat → σ → (σ → Rx (Lp σ ρ)) → Rx (Lp σ ρ)
  | 0, _, _ => .bad
  | n + 1, s, f => (f s).bind fun l =>
    match l with
    | .go s' => whileR n s' f
    | .bk s' => .ok (.go s')
    | .rt v => .ok (.rt v)
def mapA {α β : Type} : List α → List β → (α → Rx β) → Rx (List β)
  | [], acc, _ => .ok acc
  | x :: r, acc, f => grd (acc.length ≤ 1000000) ((f x).bind fun y => mapA r (acc ++ [y]) f)
def mapF {α β : Type} : List α → List β → (α → Rx (Option β)) → Rx (List β)
  | [], acc, _ => .ok acc
  | x :: r, acc, f => grd (acc.length ≤ 1000000) ((f x).bind fun y =>
    match y with
    | some z => mapF r (acc ++ [z]) f
    | none => mapF r acc f)
section
variable {α β γ σ ρ τ : Type} {K : α → Prop} {E : Nat → Prop}
theorem cW_ok {a : α} (h : cW (.ok a) K E) : K a := by
  unfold cW at h
  exact h
theorem cW_er {e : Nat} (h : cW (.er e : Rx α) K E) : E e := by
  unfold cW at h
  exact h
theorem cW_bad {C : Prop} (h : cW (.bad : Rx α) K E) : C := by
  unfold cW at h
  exact h.elim
theorem cW_mk {a : α} (h : K a) : cW (.ok a) K E := by
  unfold cW
  exact h
theorem cW_mkE {e : Nat} (h : E e) : cW (.er e : Rx α) K E := by
  unfold cW
  exact h
theorem cW_gen {m : Rx α} (h : cW m K E) : ∃ (K' : α → Prop) (E' : Nat → Prop), (∀ v, K' v → K v) ∧ (∀ e, E' e → E e) ∧ cW m K' E' := ⟨K, E, fun _ x => x, fun _ x => x, h⟩
theorem cW_grd {p : Prop} {dp : Decidable p} {m : Rx α} (h : cW (grd p m) K E) : p ∧ cW m K E := by
  unfold grd at h
  split at h
  · exact ⟨‹p›, h⟩
  · exact cW_bad h
theorem cW_pos {p : Prop} {dp : Decidable p} {a b : Rx α} (c : p) (h : cW (if p then a else b) K E) : cW a K E := by rwa [if_pos c] at h
theorem cW_neg {p : Prop} {dp : Decidable p} {a b : Rx α} (c : ¬ p) (h : cW (if p then a else b) K E) : cW b K E := by rwa [if_neg c] at h
theorem cW_call {m : Rx β} {f : β → Rx α} {K2 : β → Prop} {E2 : Nat → Prop} (h : cW (m.bind f) K E) (ho : ∀ v, cW (f v) K E → K2 v) (he : ∀ e, E e → E2 e) : cW m K2 E2 := by
  cases m with
  | ok a => exact cW_mk (ho a h)
  | er e => exact cW_mkE (he e (cW_er (α := α) h))
  | bad => exact cW_bad (α := α) h
theorem cW_push {m : Rx β} {f : β → Rx α} (h : cW (m.bind f) K E) : ∃ K2 : β → Prop, (∀ v, K2 v → cW (f v) K E) ∧ cW m K2 E := ⟨fun v => cW (f v) K E, fun _ x => x, cW_call h (fun _ x => x) fun _ x => x⟩
theorem cW_name {m : Rx α} (h : cW m K E) : ∃ K' : α → Prop, (∀ v, K' v → K v) ∧ cW m K' E := ⟨K, fun _ x => x, h⟩
theorem cW_noEr {m : Rx α} (h : cW (noEr m) K E) : cW m K (fun _ => False) := by
  cases m with
  | ok a => exact cW_mk (cW_ok (α := α) h)
  | er e => exact cW_bad (α := α) h
  | bad => exact cW_bad (α := α) h
theorem cW_try {m : Rx β} {cs : List Nat} {f : β → Rx α} {g : Nat → Rx α} {K2 : β → Prop} {E2 : Nat → Prop} (h : cW (tryR m cs f g) K E) (ho : ∀ v, cW (f v) K E → K2 v) (hc : ∀ e, e ∈ cs → cW (g e) K E → E2 e) : cW m K2 E2 := by
  cases m with
  | ok a => exact cW_mk (ho a h)
  | er e =>
    have h2 : cW (if e ∈ cs then g e else .bad) K E := h
    by_cases q : e ∈ cs
    · exact cW_mkE (hc e q (cW_pos q h2))
    · exact cW_bad (cW_neg q h2)
  | bad => exact cW_bad (α := α) h
theorem cW_bnd {a : β} {f : β → Rx α} (h : cW (bnd a f) K E) : cW (f a) K E := h
theorem cW_negB {b : Bool} {x y : Rx α} (c : b = false) (h : cW (if b = true then x else y) K E) : cW y K E := cW_neg (by rw [c]; decide) h
theorem cW_forS {xs : List β} {i : Nat} {x : β} {s : α} {f : α → β → Rx α} (hx : xs[i]? = some x) (h : cW (forS (xs.drop i) s f) K E) : cW (f s x) (fun s' => cW (forS (xs.drop (i + 1)) s' f) K E) E := by
  rw [List.drop_eq_getElem?_toList_append, hx] at h
  exact cW_call h (fun _ z => z) fun _ z => z
theorem cW_forS0 {xs : List β} {n : Nat} {s : α} {f : α → β → Rx α} (hn : n = xs.length) (h : cW (forS (xs.drop n) s f) K E) : K s := by
  subst hn
  rw [List.drop_length] at h
  exact cW_ok h
theorem cW_forR {K : Lp σ ρ → Prop} {xs : List β} {i : Nat} {x : β} {s : σ} {f : σ → β → Rx (Lp σ ρ)} (hx : xs[i]? = some x) (h : cW (forR (xs.drop i) s f) K E) :
    cW (f s x) (fun l => match l with | .go s' => cW (forR (xs.drop (i + 1)) s' f) K E | .bk s' => K (.go s') | .rt v => K (.rt v)) E := by
  rw [List.drop_eq_getElem?_toList_append, hx] at h
  refine cW_call h (fun l z => ?_) fun _ z => z
  cases l with
  | go s' => exact z
  | bk s' => exact cW_ok (K := K) (a := .go s') z
  | rt v => exact cW_ok (K := K) (a := .rt v) z
theorem cW_forR0 {K : Lp σ ρ → Prop} {xs : List β} {n : Nat} {s : σ} {f : σ → β → Rx (Lp σ ρ)} (hn : n = xs.length) (h : cW (forR (xs.drop n) s f) K E) : K (.go s) := by
  subst hn
  rw [List.drop_length] at h
  exact cW_ok h
theorem cW_whileR {K : Lp σ ρ → Prop} {m : Nat} {s : σ} {f : σ → Rx (Lp σ ρ)} (h : cW (whileR m s f) K E) :
    ∃ n, m = n + 1 ∧ cW (f s) (fun l => match l with | .go s' => cW (whileR n s' f) K E | .bk s' => K (.go s') | .rt v => K (.rt v)) E := by
  cases m with
  | zero => exact cW_bad h
  | succ n =>
    refine ⟨n, rfl, cW_call h (fun l z => ?_) fun _ z => z⟩
    cases l with
    | go s' => exact z
    | bk s' => exact cW_ok (K := K) (a := .go s') z
    | rt v => exact cW_ok (K := K) (a := .rt v) z
theorem cW_mapA {K : List α → Prop} {xs : List β} {acc : List α} {i : Nat} {x : β} {f : β → Rx α} (hx : xs[i]? = some x) (h : cW (mapA (xs.drop i) acc f) K E) :
    acc.length ≤ 1000000 ∧ cW (f x) (fun y => cW (mapA (xs.drop (i + 1)) (acc ++ [y]) f) K E) E := by
  rw [List.drop_eq_getElem?_toList_append, hx] at h
  obtain ⟨z, h⟩ := cW_grd h
  exact ⟨z, cW_call h (fun _ z => z) fun _ z => z⟩
theorem cW_mapA0 {K : List α → Prop} {xs : List β} {acc : List α} {n : Nat} {f : β → Rx α} (hn : n = xs.length) (h : cW (mapA (xs.drop n) acc f) K E) : K acc := by
  subst hn
  rw [List.drop_length] at h
  exact cW_ok h
theorem cW_mapF {K : List α → Prop} {xs : List β} {acc : List α} {i : Nat} {x : β} {f : β → Rx (Option α)} (hx : xs[i]? = some x) (h : cW (mapF (xs.drop i) acc f) K E) :
    acc.length ≤ 1000000 ∧ cW (f x) (fun y => match y with | some z => cW (mapF (xs.drop (i + 1)) (acc ++ [z]) f) K E | none => cW (mapF (xs.drop (i + 1)) acc f) K E) E := by
  rw [List.drop_eq_getElem?_toList_append, hx] at h
  obtain ⟨z, h⟩ := cW_grd h
  refine ⟨z, cW_call h (fun y z => ?_) fun _ z => z⟩
  cases y with
  | none => exact z
  | some w => exact z
theorem cW_mapF0 {K : List α → Prop} {xs : List β} {acc : List α} {n : Nat} {f : β → Rx (Option α)} (hn : n = xs.length) (h : cW (mapF (xs.drop n) acc f) K E) : K acc := by
  subst hn
  rw [List.drop_length] at h
  exact cW_ok h
end
/-- the numbers of a range -/
def rng (lo : Int) (n : Nat) : List Int := (List.range n).map fun (j : Nat) => lo + (j : Int)
theorem rng_get {lo : Int} {n i : Nat} (h : i < n) : (rng lo n)[i]? = some (lo + (i : Int)) := by
  unfold rng
  rw [List.getElem?_map, List.getElem?_range h] <;> rfl
theorem rng_len (lo : Int) (n : Nat) : (rng lo n).length = n := by
  unfold rng
  rw [List.length_map, List.length_range]

def rngD (lo : Int) (n : Nat) : List Int := (List.range n).map fun (j : Nat) => lo + (j : Int) * (-1)
theorem rngD_get {lo : Int} {n i : Nat} (h : i < n) : (rngD lo n)[i]? = some (lo + (i : Int) * (-1)) := by
  unfold rngD
  rw [List.getElem?_map, List.getElem?_range h] <;> rfl
theorem rngD_len (lo : Int) (n : Nat) : (rngD lo n).length = n := by
  unfold rngD
  rw [List.length_map, List.length_range]

/-! ### calls that may raise -/
/-- what a call with n values and keywords ks gives the parameters -/
structure Bnd (K : PySem.W.Frag) (fd : FuncData) (ps : List Str) (n : Nat) (ks : List Str) (g : List V → List V → List V) : Prop where
  to : ∀ (s : Shared) (us ws : List Value) (vs zs : List V), K.In s.heap → vs.length = n → zs.length = ks.length → Vals vs us → Vals zs ws → ∃ vv : List Value, BindsTo s fd ⟨us, ks.zip ws⟩ (ps.zip vv) ∧ Vals (g vs zs) vv
theorem Bnd.of_kbn {K : PySem.W.Frag} {fd : FuncData} {ps ks : List Str} {n : Nat} {g : List Value → List Value → List Value} {gV : List V → List V → List V} (b : KBn K fd ps n ks g gV) : Bnd K fd ps n ks gV :=
  ⟨fun s us ws vs zs X l1 l2 r rz => ⟨g us ws, b.to s us ws X (r.length.symm.trans l1) (rz.length.symm.trans l2), b.rel r rz⟩⟩
theorem Bnd.all {K : PySem.W.Frag} {fd : FuncData} {ps ks : List Str} {n : Nat} {g : List V → List V → List V} (h : ∀ (us ws : List Value) (vs zs : List V), vs.length = n → zs.length = ks.length → Vals vs us → Vals zs ws →
    ∃ vv : List Value, bindArgs fd ⟨us, ks.zip ws⟩ = pure (ps.zip vv) ∧ Vals (g vs zs) vv) : Bnd K fd ps n ks g :=
  ⟨fun s us ws vs zs _ l1 l2 r rz => by
    obtain ⟨vv, e, q⟩ := h us ws vs zs l1 l2 r rz
    exact ⟨vv, BindsTo.of_eq e, q⟩⟩
abbrev Pat := Nat × List Str × (List V → List V → List V)
def Bnd1 (K : PySem.W.Frag) (fd : FuncData) (ps : List Str) (p : Pat) : Prop := Bnd K fd ps p.1 p.2.1 p.2.2
section
variable {P : Program} {w : World} {K : PySem.W.Frag} {mg : Str → Option Value} {base : Heap}
/-- a def of the top, with the ways it is called -/
structure DefX (K : PySem.W.Frag) (mg : Str → Option Value) (x : Str) (st : Stmt) (ps : List Str) (pats : List Pat) : Prop where
  ex : ∃ (f : Addr) (fd : FuncData) (dvs : List V) (kws : List (Str × V)), FunD K x x (defArgs st) (defBody st) (defScope st) dvs kws f fd ∧ mg x = some (.ref f) ∧ ∀ p ∈ pats, Bnd1 K fd ps p
structure CalX (P : Program) (w : World) (K : PySem.W.Frag) (mg : Str → Option Value) (base : Heap) (k : Nat) (x : Str) (sp : Sp) (pats : List Pat) : Prop where
  ex : ∃ (f : Addr) (fd : FuncData) (ps : List Str), FnG P w K mg base (L2.CX P w) k f fd ps sp ∧ mg x = some (.ref f) ∧ PySem.W.keepIn K (.ref f) = true ∧ ∀ p ∈ pats, Bnd1 K fd ps p
abbrev BodyX (P : Program) (w : World) (K : PySem.W.Frag) (mg : Str → Option Value) (base : Heap) (x : Str) (st : Stmt) (N : List Str) (k : Nat) (sp : Sp) : Prop :=
  ∀ (f : Addr) (cdv : Value) (A : Around) (outer : List Env) (s : Shared) (H : Hp) (vs : List V) (Q : VK) (E : XK), RoomG k (A.deeper (envOfC x (defScope st) s.heap.objs.size f cdv)) → sp vs H Q E →
    ∃ t, PSs (cxOf (L2.CX P w) P w K mg base N x (defScope st) f cdv A outer s H E) (defBody st) t ∧ t { nx := fun _ H' => Q .non H', rt := Q } (start N vs) H
theorem DefX.ok {x : Str} {st : Stmt} {N ps : List Str} {pats : List Pat} {k : Nat} {sp : Sp} (D : DefX K mg x st ps pats) (S : FnScope N ps (defScope st)) (len : ∀ vs H Q E, sp vs H Q E → vs.length = ps.length)
    (hbody : BodyX P w K mg base x st N k sp) : CalX P w K mg base (k + 1) x sp pats := by
  obtain ⟨f, fd, dvs, kws, F, hm, b⟩ := D.ex
  exact ⟨f, fd, ps, FnG.body F S len (fun cdv A outer s H vs Q E hr h => hbody f cdv A outer s H vs Q E hr h), hm, F.kp, b⟩
end
section
variable {X : Cx} {k j n : Nat} {f : Addr} {fd : FuncData} {ps ks : List Str} {g : List V → List V → List V} {sp : Sp} {x : Str} {pos p : Pos} {e : Expr} {es : List Expr} {kws : List Keyword} {t tk : TA} {W : WX}
theorem run_X {pins : List (Addr × Obj)} {σ : L2.St} {H : Hp} {s : Shared} {Q : VK} {us ws : List Value} {vs zs : List V} (F : FnG X.prog X.w X.K X.mg X.base (L2.CX X.prog X.w) k f fd ps sp) (hr : RoomG k X.A) (hb : Bnd X.K fd ps n ks g) (tkW : Takes X W)
    (I : Inv X pins σ H s) (r : Vals vs us) (rz : Vals zs ws) (l1 : vs.length = n) (l2 : zs.length = ks.length) (h : sp (g vs zs) H Q (WE W σ)) :
    wpAny (model X.prog X.w) X.A (call (.ref f) us (ks.zip ws)) (EP X pins σ Q) X.xe s := by
  obtain ⟨vv, b, r2⟩ := hb.to s us ws vs zs I.kIn l1 l2 r rz
  refine wpAny_call (codeAny_mono (F.run X.A X.stack s H ⟨us, ks.zip ws⟩ vv (g vs zs) Q (WE W σ) hr I.env0 b r2 h) fun rr s' hq => ?_)
  cases rr with
  | error er => exact passAt tkW σ pins H s er s' I hq
  | ok fl =>
    cases fl with
    | ret u => exact I.after hq
    | next => exact hq.elim
    | brk => exact hq.elim
    | cont => exact hq.elim
/-- f(e, .., k = v, ..) -/
def tCallX (n m : Nat) (sp : Sp) (g : List V → List V → List V) (W : WX) (t tk : TA) : TE := fun σ H Q => t σ H fun vs H1 => tk σ H1 fun zs H2 => vs.length = n ∧ zs.length = m ∧ sp (g vs zs) H2 Q (WE W σ)
theorem vx_callX {pats : List Pat} (c : CalX X.prog X.w X.K X.mg X.base k x sp pats) (pt : Pat) (hpt : pt ∈ pats) (hr : RoomG j X.A) (hk : k ≤ j) (tkW : Takes X W) (hg : Gl X x) (ha : PA X (e :: es) t) (hkw : PK X kws tk)
    (hall : (backToKw pos (keywordEach kws X.env)).all (·.1.isSome) = true := by rfl) (hks : (backToKw pos (keywordEach kws X.env)).filterMap (·.1) = pt.2.1 := by rfl)
    (hdb : (x == ("__debug__" : Str)) = false := by decide) (he : starEach (e :: es) X.env = (false, eval e X.env) :: starEach es X.env := by rfl)
    (hpl : ((backTo pos (starEach (e :: es) X.env)).any (·.1) || (backToKw pos (keywordEach kws X.env)).any (·.1.isNone)) = false := by rfl) :
    PE X (.Call (.Name x p) (e :: es) kws pos) (tCallX pt.1 pt.2.1.length sp pt.2.2 W t tk) := by
  obtain ⟨f, fd, ps, F, hm, kp, b⟩ := c.ex
  refine ⟨fun pins s σ H Q I h => ?_⟩
  refine wpAny_Call_Name_kw (ld_glob I hg hm ?_ hdb)
  refine PySem.W.callWith_KW (h₀ := X.base) I.ok.mod.kin kp hall (thn (ha.run pos pins s σ H _ I h) fun us s1 ⟨vs, H1, I1, r, q⟩ => ?_) hpl he
  refine thn (hkw.run pos pins s1 σ H1 _ I1 q) fun ws s2 ⟨zs, H2, I2, rz, l1, l2, q2⟩ => ⟨I2.kIn, ?_⟩
  rw [hks]
  exact run_X F (hr.low hk) (b pt hpt) tkW I2 r rz l1 l2 q2
theorem vx_callX0 {pats : List Pat} (c : CalX X.prog X.w X.K X.mg X.base k x sp pats) (pt : Pat) (hpt : pt ∈ pats) (hr : RoomG j X.A) (hk : k ≤ j) (tkW : Takes X W) (hg : Gl X x) (hks : pt.2.1 = [] := by rfl)
    (hdb : (x == ("__debug__" : Str)) = false := by decide) : PE X (.Call (.Name x p) [] [] pos) (tCallX pt.1 pt.2.1.length sp pt.2.2 W tNil tNil) := by
  obtain ⟨f, fd, ps, F, hm, kp, b⟩ := c.ex
  refine ⟨fun pins s σ H Q I h => ?_⟩
  refine wpAny_Call_Name_kw (ld_glob I hg hm ?_ hdb)
  obtain ⟨l1, l2, q2⟩ := h
  have hz := run_X (us := []) (ws := []) F (hr.low hk) (b pt hpt) tkW I .nil .nil l1 l2 q2
  rw [hks] at hz
  exact PySem.W.callWith_K0 I.kIn kp hz
end
/-! ### borrowed things -/
theorem Sep.bM {M : List Addr} {H0 G0 G H : Hp} {O : List (Addr)} (S : Sep M H0 G0 G H O) : Same (hideL M H0) H := fun b o e => by
  by_cases h : b ∈ M
  · rw [hideL_in h] at e
    cases e
  · rw [hideL_out h] at e
    exact S.base b o e h
theorem b_ne {M : List Addr} {H0 G0 G H : Hp} {O : List Addr} {a b : Addr} {o : HO} (h : (hideL M H0) a = some o) (S : Sep M H0 G0 G H O) (hb : b ∈ O) : a ≠ b := fun z => by
  subst z
  rcases (S.ow a hb).2.2 with q | q
  · rw [hideL_in q] at h
    cases h
  · by_cases hM : a ∈ M
    · rw [hideL_in hM] at h
      cases h
    · rw [hideL_out hM, q] at h
      cases h
theorem hide0 {H : Hp} : hideL [] H = H := by
  funext b
  unfold hideL
  rw [if_neg List.not_mem_nil]
theorem hide_nil {H : Hp} {a : Addr} {o : HO} (h : H a = some o) : (hideL [] H) a = some o := by
  rw [hide0]
  exact h
theorem Rp.hide_nil {H : Hp} {v : V} {d : PyData} (h : Rp H v d) : Rp (hideL [] H) v d := by
  rw [hide0]
  exact h
theorem Sep.startM {M : List Addr} {G H : Hp} (e : Same G H) (hM : ∀ a ∈ M, H a ≠ none) (hG : ∀ a ∈ M, G a = none) : Sep M H G G H M :=
  ⟨fun _ _ e _ => e, hM, e, Same.refl _, fun _ _ e => e, fun a ha => ⟨hG a ha, hM a ha, .inl ha⟩⟩
theorem Sep.gno {M : List Addr} {H0 G0 G H : Hp} {O L : List Addr} (S : Sep M H0 G0 G H O) (h : ∀ a ∈ L, a ∈ O) : ∀ a ∈ L, G a = none := fun a ha => (S.ow a (h a ha)).1
theorem RpAll.ixD {α : Type} [Inhabited α] {f : α → PyData} {H : Hp} {vs : List V} {xs : List α} {k : Int} (r : RpAll H vs (xs.map f)) (h : -(xs.length : Int) ≤ k ∧ k < xs.length) : ∃ v, atI vs k = some v ∧ Rp H v (f (itD xs k)) := by
  obtain ⟨v, x, h1, h2, h3⟩ := RpAll.ix r h
  refine ⟨v, h1, ?_⟩
  unfold itD
  rw [h2]
  exact h3
theorem tru_all {α : Type} [DecidableEq α] {f : α → PyData} {H : Hp} {vs : List V} {xs : List α} (r : RpAll H vs (xs.map f)) : (!decide (xs = [])) = !vs.isEmpty := by
  have h := r.len
  rw [List.length_map] at h
  cases xs <;> cases vs <;> simp_all
theorem ix_nn {α : Type} {xs : List α} {k : Int} (h0 : 0 ≤ k) (h1 : k < xs.length) : -(xs.length : Int) ≤ k ∧ k < xs.length := ⟨by omega, h1⟩
theorem all_nilQ {α : Type} {P : α → Prop} : ∀ x ∈ ([] : List α), P x := fun x h => by cases h
theorem all_consQ {α : Type} {P : α → Prop} {a : α} {l : List α} (h : P a) (t : ∀ x ∈ l, P x) : ∀ x ∈ a :: l, P x := fun x hx => by
  rcases List.mem_cons.mp hx with rfl | hx
  · exact h
  · exact t x hx
theorem mem_one {a b : Nat} (h : a ∈ [b]) : a = b := by simpa using h
theorem mem_cons2 {a b : Nat} {l : List Nat} (h : a ∈ b :: l) : a = b ∨ a ∈ l := List.mem_cons.mp h
theorem len0 {α : Type} {l : List α} (h : l.length = 0) : l = [] := List.length_eq_zero_iff.mp h
theorem len1 {α : Type} {l : List α} (h : l.length = 1) : ∃ a, l = [a] := List.length_eq_one_iff.mp h
theorem len_s {α : Type} {l : List α} {n : Nat} (h : l.length = n + 1) : ∃ a r, l = a :: r ∧ r.length = n := by
  cases l with
  | nil => cases h
  | cons a r => exact ⟨a, r, rfl, Nat.succ.inj h⟩
theorem len2 {α : Type} {l : List α} (h : l.length = 2) : ∃ a b, l = [a, b] := by
  obtain ⟨a, r, rfl, h2⟩ := len_s h
  obtain ⟨b, rfl⟩ := len1 h2
  exact ⟨a, b, rfl⟩
theorem len3 {α : Type} {l : List α} (h : l.length = 3) : ∃ a b c, l = [a, b, c] := by
  obtain ⟨a, r, rfl, h2⟩ := len_s h
  obtain ⟨b, c, rfl⟩ := len2 h2
  exact ⟨a, b, c, rfl⟩
theorem len4 {α : Type} {l : List α} (h : l.length = 4) : ∃ a b c d, l = [a, b, c, d] := by
  obtain ⟨a, r, rfl, h2⟩ := len_s h
  obtain ⟨b, c, d, rfl⟩ := len3 h2
  exact ⟨a, b, c, d, rfl⟩
theorem len5 {α : Type} {l : List α} (h : l.length = 5) : ∃ a b c d e, l = [a, b, c, d, e] := by
  obtain ⟨a, r, rfl, h2⟩ := len_s h
  obtain ⟨b, c, d, e, rfl⟩ := len4 h2
  exact ⟨a, b, c, d, e, rfl⟩
theorem len6 {α : Type} {l : List α} (h : l.length = 6) : ∃ a b c d e f, l = [a, b, c, d, e, f] := by
  obtain ⟨a, r, rfl, h2⟩ := len_s h
  obtain ⟨b, c, d, e, f, rfl⟩ := len5 h2
  exact ⟨a, b, c, d, e, f, rfl⟩
theorem len7 {α : Type} {l : List α} (h : l.length = 7) : ∃ a b c d e f g, l = [a, b, c, d, e, f, g] := by
  obtain ⟨a, r, rfl, h2⟩ := len_s h
  obtain ⟨b, c, d, e, f, g, rfl⟩ := len6 h2
  exact ⟨a, b, c, d, e, f, g, rfl⟩
def rLenTK (K : PySem.W.Frag) : List V → Hp → VK → Prop := fun xs H Q => ∃ (p : Addr) (vs : List V) (n : Nat), xs = [.ref p] ∧ SqT K H p vs ∧ vs.length = n ∧ Q (.int (n : Int)) H
theorem call_lenTK {X : Cx} {K : PySem.W.Frag} (hK : X.K = K := by rfl) : CallR X (.builtin "len") (rLenTK K) := by
  subst hK
  intro pins s σ H xs us Q I r h
  obtain ⟨p, vs, n, rfl, hs, hn, q⟩ := h
  exact call_len_seq pins s σ H _ us Q I r ⟨p, _, rfl, Or.inr hs, by rw [hn]; exact q⟩
theorem exm_mk {K : PySem.W.Frag} {S C : Addr} (h1 : PySem.W.subIn K (.ref C) (.type "BaseException") = some true) (h2 : PySem.W.isClsIn K C = true) (h3 : PySem.W.typeIn K (.ref C) = some (.type "type")) (h4 : PySem.W.subIn K (.ref S) (.ref C) = some true) :
    PySem.W.exmOne K (.ref S) (.ref C) = some true := by
  unfold PySem.W.isClsIn at h2
  unfold PySem.W.exmOne
  unfold PySem.W.kitCls
  simp only [h1, h2, h3, h4, beq_self_eq_true, Bool.and_self, if_true]
theorem kit_mk {K : PySem.W.Frag} {S C : Addr} (h2 : PySem.W.isClsIn K C = true) (h3 : PySem.W.typeIn K (.ref C) = some (.type "type")) (h4 : PySem.W.subIn K (.ref S) (.ref C) = some true) :
    PySem.W.kitOne K (.ref S) (.ref C) = some true := by
  unfold PySem.W.isClsIn at h2
  unfold PySem.W.kitOne
  split
  · rfl
  · unfold PySem.W.kitCls
    simp only [h2, h3, h4, beq_self_eq_true, Bool.and_self, if_true]
/-- isinstance(e, C) of the exception in hand -/
def rIsX (K : PySem.W.Frag) (a : Addr) (cls : Value) (d : Option Addr) : List V → Hp → VK → Prop := fun xs H Q => ∃ (D C : Addr) (b : Bool), cls = .ref D ∧ d = none ∧ ExcC K D ∧ xs = [.ref a, .ref C] ∧ PySem.W.kitOne K (.ref D) (.ref C) = some b ∧ Q (.bl b) H
theorem call_isX {X : Cx} {K : PySem.W.Frag} {a : Addr} {cls : Value} {d : Option Addr} {oe : Obj} {pn : List (Addr × Obj)} (hz : Zc cls d oe) (hf : ∃ vs, oe.data = .fields vs) (hK : X.K = K := by rfl) : CallR (X.suite a ((a, oe) :: pn)) (.builtin "isinstance") (rIsX K a cls d) := by
  subst hK
  intro pins s σ H xs us Q I r h
  obtain ⟨D, C, b, rfl, rfl, c, rfl, e, q⟩ := h
  exact call_isE c hz hf pins s σ H _ us Q I r ⟨_, _, b, rfl, fun u z => z, e, q⟩
/-! ### unpacking a list -/
section
variable {X : Cx} {K : PySem.W.Frag} {pos : Pos}
theorem pg_seqK {es : List Expr} {k : Nat} {t : TGs} {n : Nat} (h : PGs X es t) (hc : X.calm = true := by rfl) (hK : X.K = K := by rfl)
    (hn : (assignEach es X.env).length = n := by rfl) (hst : (assignEach es X.env).findIdx? (·.1) = none := by rfl) : PG X (.Tuple es k pos) (gLst K n t) := hK ▸ pg_lst hc h hn hst
end
theorem SqL.cast {K : PySem.W.Frag} {H : Hp} {a : Addr} {xs ys : List V} (h : SqL K H a xs) (e : xs = ys) : SqL K H a ys := e ▸ h
section
variable {α : Type} [Inhabited α] {f : α → V}
theorem unp2 {xs : List α} (h : xs.length = 2) : xs.map f = [f (itD xs 0), f (itD xs 1)] := by
  obtain ⟨a, b, rfl⟩ := len2 h
  rfl
theorem unp3 {xs : List α} (h : xs.length = 3) : xs.map f = [f (itD xs 0), f (itD xs 1), f (itD xs 2)] := by
  obtain ⟨a, b, c, rfl⟩ := len3 h
  rfl
theorem unp4 {xs : List α} (h : xs.length = 4) : xs.map f = [f (itD xs 0), f (itD xs 1), f (itD xs 2), f (itD xs 3)] := by
  obtain ⟨a, b, c, d, rfl⟩ := len4 h
  rfl
theorem unp6 {xs : List α} (h : xs.length = 6) : xs.map f = [f (itD xs 0), f (itD xs 1), f (itD xs 2), f (itD xs 3), f (itD xs 4), f (itD xs 5)] := by
  obtain ⟨a, b, c, d, e, g, rfl⟩ := len6 h
  rfl
theorem unp8 {xs : List α} (h : xs.length = 8) : xs.map f = [f (itD xs 0), f (itD xs 1), f (itD xs 2), f (itD xs 3), f (itD xs 4), f (itD xs 5), f (itD xs 6), f (itD xs 7)] := by
  obtain ⟨a, r, rfl, h2⟩ := len_s h
  obtain ⟨b, c, d, e, g, i, j, rfl⟩ := len7 h2
  rfl
end
/-! ### classes -/
section
variable {P : Program} {w : World} {K : PySem.W.Frag} {mg : Str → Option Value} {base : Heap}
structure MethX (K : PySem.W.Frag) (C : Addr) (q m : Str) (st : Stmt) (ps : List Str) (pats : List Pat) : Prop where
  ex : ∃ (f : Addr) (fd : FuncData) (dvs : List V) (kws : List (Str × V)), FunD K m q (defArgs st) (defBody st) (defScope st) dvs kws f fd ∧ Meth K C m f ∧ ∀ p ∈ pats, Bnd1 K fd ps p
structure InitX (K : PySem.W.Frag) (mg : Str → Option Value) (C : Addr) (cn q : Str) (st : Stmt) (ps : List Str) (pats : List Pat) : Prop where
  ex : ∃ (f : Addr) (fd : FuncData) (dvs : List V) (kws : List (Str × V)), FunD K "__init__" q (defArgs st) (defBody st) (defScope st) dvs kws f fd ∧ Mk K C f ∧ mg cn = some (.ref C) ∧ ∀ p ∈ pats, Bnd1 K fd ps p
structure PropX (K : PySem.W.Frag) (C : Addr) (q m : Str) (st : Stmt) (ps : List Str) (pats : List Pat) : Prop where
  ex : ∃ (r f : Addr) (fd : FuncData) (dvs : List V) (kws : List (Str × V)), FunD K m q (defArgs st) (defBody st) (defScope st) dvs kws f fd ∧ PropOf K C m r f ∧ Binds K fd ps []
structure MetX (P : Program) (w : World) (K : PySem.W.Frag) (mg : Str → Option Value) (base : Heap) (k : Nat) (C : Addr) (m : Str) (sp : Sp) (pats : List Pat) : Prop where
  ex : ∃ (f : Addr) (fd : FuncData) (ps : List Str), Cls K C ∧ Meth K C m f ∧ FnG P w K mg base (L2.CX P w) k f fd ps sp ∧ ∀ p ∈ pats, Bnd1 K fd ps p
structure PropY (P : Program) (w : World) (K : PySem.W.Frag) (mg : Str → Option Value) (base : Heap) (k : Nat) (C : Addr) (m : Str) (sp : Sp) (pats : List Pat) : Prop where
  ex : ∃ (q f : Addr) (fd : FuncData) (ps : List Str), Cls K C ∧ PropOf K C m q f ∧ FnG P w K mg base (L2.CX P w) k f fd ps sp ∧ Binds K fd ps []
structure MakX (P : Program) (w : World) (K : PySem.W.Frag) (mg : Str → Option Value) (base : Heap) (k : Nat) (cn : Str) (C : Addr) (sp : Sp) (pats : List Pat) : Prop where
  ex : ∃ (f : Addr) (fd : FuncData) (ps : List Str), Mk K C f ∧ FnG P w K mg base (L2.CX P w) k f fd ps sp ∧ mg cn = some (.ref C) ∧ ∀ p ∈ pats, Bnd1 K fd ps p
theorem MethX.ok {C : Addr} {q m : Str} {st : Stmt} {N ps : List Str} {pats : List Pat} {k : Nat} {sp : Sp} (D : MethX K C q m st ps pats) (c : Cls K C) (S : FnScope N ps (defScope st)) (len : ∀ vs H Q E, sp vs H Q E → vs.length = ps.length)
    (hbody : BodyX P w K mg base q st N k sp) : MetX P w K mg base (k + 1) C m sp pats := by
  obtain ⟨f, fd, dvs, kws, F, me, b⟩ := D.ex
  exact ⟨f, fd, ps, c, me, FnG.body F S len (fun cdv A outer s H vs Q E hr h => hbody f cdv A outer s H vs Q E hr h), b⟩
theorem PropX.ok {C : Addr} {q m : Str} {st : Stmt} {N ps : List Str} {pats : List Pat} {k : Nat} {sp : Sp} (D : PropX K C q m st ps pats) (c : Cls K C) (S : FnScope N ps (defScope st)) (len : ∀ vs H Q E, sp vs H Q E → vs.length = ps.length)
    (hbody : BodyX P w K mg base q st N k sp) : PropY P w K mg base (k + 1) C m sp pats := by
  obtain ⟨r, f, fd, dvs, kws, F, me, b⟩ := D.ex
  exact ⟨r, f, fd, ps, c, me, FnG.body F S len (fun cdv A outer s H vs Q E hr h => hbody f cdv A outer s H vs Q E hr h), b⟩
theorem InitX.ok {C : Addr} {cn q : Str} {st : Stmt} {N ps : List Str} {pats : List Pat} {k : Nat} {sp : Sp} (D : InitX K mg C cn q st ps pats) (S : FnScope N ps (defScope st)) (len : ∀ vs H Q E, sp vs H Q E → vs.length = ps.length)
    (hbody : BodyX P w K mg base q st N k sp) : MakX P w K mg base (k + 1) cn C sp pats := by
  obtain ⟨f, fd, dvs, kws, F, me, hm, b⟩ := D.ex
  exact ⟨f, fd, ps, me, FnG.body F S len (fun cdv A outer s H vs Q E hr h => hbody f cdv A outer s H vs Q E hr h), hm, b⟩
end
theorem cW_callN {α β : Type} {m : Rx β} {f : β → Rx α} {K : α → Prop} {E : Nat → Prop} {K2 : β → Prop} {E2 : Nat → Prop} (h : cW ((noEr m).bind f) K E) (ho : ∀ v, cW (f v) K E → K2 v) (_ : True) : cW m K2 E2 := by
  cases m with
  | ok a => exact cW_mk (ho a h)
  | er e => exact cW_bad (α := α) h
  | bad => exact cW_bad (α := α) h
section
variable {X : Cx} {k j n : Nat} {f C : Addr} {fd : FuncData} {ps ks : List Str} {g : List V → List V → List V} {sp : Sp} {x m : Str} {pos p apos : Pos} {e o : Expr} {es : List Expr} {kws : List Keyword} {ta : TE} {t tk : TA} {W : WX}
theorem run_mkX {pins : List (Addr × Obj)} {σ : L2.St} {H : Hp} {s : Shared} {Q : VK} {us ws : List Value} {vs zs : List V} (M : Mk X.K C f) (F : FnG X.prog X.w X.K X.mg X.base (L2.CX X.prog X.w) k f fd ps sp) (hr : RoomG (k + 1) X.A) (hb : Bnd X.K fd ps n ks g) (tkW : Takes X W)
    (I : Inv X pins σ H s) (r : Vals vs us) (rz : Vals zs ws) (l1 : vs.length + 1 = n) (l2 : zs.length = ks.length)
    (h : ∀ x dx, H x = none → H dx = none → dx ≠ x → sp (g (.ref x :: vs) zs) (upd (upd H dx (.own x)) x (.ins C dx [])) (fun v H2 => v = .non ∧ Q (.ref x) H2) (WE W σ)) :
    wpAny (model X.prog X.w) X.A (call (.ref C) us (ks.zip ws)) (EP X pins σ Q) X.xe s := by
  have hq := h (s.heap.objs.size + 1) s.heap.objs.size (I.hok.fresh (Nat.le_succ _)) (I.hok.fresh (Nat.le_refl _)) (Nat.ne_of_lt (Nat.lt_succ_self _))
  have I2 := Inv.made (C := C) I
  have r1 : Vals (V.ref (s.heap.objs.size + 1) :: vs) (Value.ref (s.heap.objs.size + 1) :: us) := .cons rfl r
  obtain ⟨vv, b, r2⟩ := hb.to _ (Value.ref (s.heap.objs.size + 1) :: us) ws (V.ref (s.heap.objs.size + 1) :: vs) zs I2.kIn (by rw [List.length_cons, l1]) l2 r1 rz
  refine wpAny_call (make_map (f := f) I.kIn M.makes M.init (beq_iff_eq.mp M.fn) (codeAny_mono (F.run _ X.stack _ _ ⟨Value.ref (s.heap.objs.size + 1) :: us, ks.zip ws⟩ vv _ _ (WE W σ) (hr.made C us (ks.zip ws))
    (I2.env0.make C us (ks.zip ws)) b r2 hq) fun r s' hq' => ?_))
  cases r with
  | error e => exact passAt tkW σ pins _ _ e s' I2 hq'
  | ok fl =>
    cases fl with
    | ret u =>
      obtain ⟨v, H', I3, rv, ev, q3⟩ := I2.after hq'
      subst ev
      exact ⟨rv, ⟨V.ref (s.heap.objs.size + 1), H', I3, rfl, q3⟩⟩
    | next => exact False.elim hq'
    | brk => exact False.elim hq'
    | cont => exact False.elim hq'
/-- C(e, .., k = v, ..) -/
def tMakeX (C : Addr) (n m : Nat) (sp : Sp) (g : List V → List V → List V) (W : WX) (t tk : TA) : TE := fun σ H Q => t σ H fun vs H1 => tk σ H1 fun zs H2 => vs.length + 1 = n ∧ zs.length = m ∧ ∀ x dx, H2 x = none → H2 dx = none → dx ≠ x →
  sp (g (.ref x :: vs) zs) (upd (upd H2 dx (.own x)) x (.ins C dx [])) (fun v H3 => v = .non ∧ Q (.ref x) H3) (WE W σ)
theorem vx_makeX {pats : List Pat} (c : MakX X.prog X.w X.K X.mg X.base k x C sp pats) (pt : Pat) (hpt : pt ∈ pats) (hr : RoomG j X.A) (hk : k + 1 ≤ j) (tkW : Takes X W) (hg : Gl X x) (ha : PA X (e :: es) t) (hkw : PK X kws tk)
    (hall : (backToKw pos (keywordEach kws X.env)).all (·.1.isSome) = true := by rfl) (hks : (backToKw pos (keywordEach kws X.env)).filterMap (·.1) = pt.2.1 := by rfl) (hdb : (x == ("__debug__" : Str)) = false := by decide)
    (he : starEach (e :: es) X.env = (false, eval e X.env) :: starEach es X.env := by rfl) (hpl : ((backTo pos (starEach (e :: es) X.env)).any (·.1) || (backToKw pos (keywordEach kws X.env)).any (·.1.isNone)) = false := by rfl) :
    PE X (.Call (.Name x p) (e :: es) kws pos) (tMakeX C pt.1 pt.2.1.length sp pt.2.2 W t tk) := by
  obtain ⟨f, fd, ps, M, F, hm, b⟩ := c.ex
  refine ⟨fun pins s σ H Q I h => ?_⟩
  refine wpAny_Call_Name_kw (ld_glob I hg hm ?_ hdb)
  refine PySem.W.callWith_KW (h₀ := X.base) I.ok.mod.kin M.kp hall (thn (ha.run pos pins s σ H _ I h) fun us s1 ⟨vs, H1, I1, r, q⟩ => ?_) hpl he
  refine thn (hkw.run pos pins s1 σ H1 _ I1 q) fun ws s2 ⟨zs, H2, I2, rz, l1, l2, q2⟩ => ⟨I2.kIn, ?_⟩
  rw [hks]
  exact run_mkX M F (hr.low hk) (b pt hpt) tkW I2 r rz l1 l2 q2
theorem vx_makeX0 {pats : List Pat} (c : MakX X.prog X.w X.K X.mg X.base k x C sp pats) (pt : Pat) (hpt : pt ∈ pats) (hr : RoomG j X.A) (hk : k + 1 ≤ j) (tkW : Takes X W) (hg : Gl X x) (hks : pt.2.1 = [] := by rfl)
    (hdb : (x == ("__debug__" : Str)) = false := by decide) : PE X (.Call (.Name x p) [] [] pos) (tMakeX C pt.1 pt.2.1.length sp pt.2.2 W tNil tNil) := by
  obtain ⟨f, fd, ps, M, F, hm, b⟩ := c.ex
  refine ⟨fun pins s σ H Q I h => ?_⟩
  refine wpAny_Call_Name_kw (ld_glob I hg hm ?_ hdb)
  obtain ⟨l1, l2, q2⟩ := h
  have hz := run_mkX (us := []) (ws := []) M F (hr.low hk) (b pt hpt) tkW I .nil .nil l1 l2 q2
  rw [hks] at hz
  exact PySem.W.callWith_K0 I.kIn M.kp hz
/-- o.m(e, .., k = v, ..) -/
def tMethX (C : Addr) (m : Str) (n mm : Nat) (sp : Sp) (g : List V → List V → List V) (W : WX) (ta : TE) (t tk : TA) : TE := fun σ H Q => ta σ H fun x H1 => ∃ a dx fs, x = .ref a ∧ H1 a = some (.ins C dx fs) ∧ fs.lookup m = none ∧
  t σ H1 fun vs H2 => tk σ H2 fun zs H3 => (x :: vs).length = n ∧ zs.length = mm ∧ sp (g (x :: vs) zs) H3 Q (WE W σ)
theorem vx_methX {pats : List Pat} {pl : Sem Bool} (c : MetX X.prog X.w X.K X.mg X.base k C m sp pats) (pt : Pat) (hpt : pt ∈ pats) (hr : RoomG j X.A) (hk : k ≤ j) (tkW : Takes X W) (he : PE X o ta) (ha : PA X (e :: es) t) (hkw : PK X kws tk)
    (hall : (backToKw pos (keywordEach kws X.env)).all (·.1.isSome) = true := by rfl) (hks : (backToKw pos (keywordEach kws X.env)).filterMap (·.1) = pt.2.1 := by rfl)
    (hst : starEach (e :: es) X.env = (false, eval e X.env) :: starEach es X.env := by rfl) (hpl : ((backTo pos (starEach (e :: es) X.env)).any (·.1) || (backToKw pos (keywordEach kws X.env)).any (·.1.isNone)) = false := by rfl)
    (ht : eval (.Call (.Attribute o m apos) (e :: es) kws pos) X.env = (do
      let ov ← eval o X.env
      standAt apos.atName
      let (f, first) ← holding [ov] (getMethod ov m pl)
      callWith pos f first (backTo pos (starEach (e :: es) X.env)) (backToKw pos (keywordEach kws X.env))) := by rfl) :
    PE X (.Call (.Attribute o m apos) (e :: es) kws pos) (tMethX C m pt.1 pt.2.1.length sp pt.2.2 W ta t tk) := by
  obtain ⟨f, fd, ps, hc, hm, F, b⟩ := c.ex
  refine ⟨fun pins s σ H Q I h => ?_⟩
  refine PySem.W.methodCall_KW (pl := pl) (thn (he.run pins s σ H _ I h) fun u s1 ⟨x, H1, I1, rx, a, dx, fs, ex, ea, l, q⟩ => ?_) ht
  subst ex
  obtain rfl : u = Value.ref a := rx
  refine getmeth_ok I1 ea hc hm l ?_
  refine PySem.W.callWith_KW (first := [.ref a]) (h₀ := X.base) I.ok.mod.kin hm.kp hall (thn (ha.run pos pins s1 σ H1 _ I1 q) fun us s2 ⟨vs, H2, I2, r, q2⟩ => ?_) hpl hst
  refine thn (hkw.run pos pins s2 σ H2 _ I2 q2) fun ws s3 ⟨zs, H3, I3, rz, l1, l2, q3⟩ => ⟨I3.kIn, ?_⟩
  rw [hks]
  exact run_X (us := .ref a :: us) (vs := .ref a :: vs) F (hr.low hk) (b pt hpt) tkW I3 (.cons rfl r) rz l1 l2 q3
theorem vx_methX0 {pats : List Pat} {pl : Sem Bool} (c : MetX X.prog X.w X.K X.mg X.base k C m sp pats) (pt : Pat) (hpt : pt ∈ pats) (hr : RoomG j X.A) (hk : k ≤ j) (tkW : Takes X W) (he : PE X o ta) (hks : pt.2.1 = [] := by rfl)
    (ht : eval (.Call (.Attribute o m apos) [] [] pos) X.env = (do
      let ov ← eval o X.env
      standAt apos.atName
      let (f, first) ← holding [ov] (getMethod ov m pl)
      callWith pos f first (backTo pos (starEach [] X.env)) (backToKw pos (keywordEach [] X.env))) := by rfl) :
    PE X (.Call (.Attribute o m apos) [] [] pos) (tMethX C m pt.1 pt.2.1.length sp pt.2.2 W ta tNil tNil) := by
  obtain ⟨f, fd, ps, hc, hm, F, b⟩ := c.ex
  refine ⟨fun pins s σ H Q I h => ?_⟩
  refine PySem.W.methodCall_KW (pl := pl) (thn (he.run pins s σ H _ I h) fun u s1 ⟨x, H1, I1, rx, a, dx, fs, ex, ea, l, q⟩ => ?_) ht
  subst ex
  obtain rfl : u = Value.ref a := rx
  refine getmeth_ok I1 ea hc hm l ?_
  obtain ⟨l1, l2, q3⟩ := q
  have hz := run_X (us := [.ref a]) (vs := [.ref a]) (ws := []) F (hr.low hk) (b pt hpt) tkW I1 (.cons rfl .nil) .nil l1 l2 q3
  rw [hks] at hz
  exact PySem.W.callWith_K0 (first := [.ref a]) I1.kIn hm.kp hz
theorem vx_propX {pats : List Pat} (c : PropY X.prog X.w X.K X.mg X.base k C m sp pats) (hr : RoomG j X.A) (hk : k + 1 ≤ j) (he : PE X o ta) (hab : attributeBase o m X.env (eval o X.env) = eval o X.env := by rfl) : PE X (.Attribute o m pos) (tProp C sp [] E0 ta) := by
  obtain ⟨q, f, fd, ps, cls, prop, F, bind⟩ := c.ex
  constructor
  intro pins s σ H Q I h
  refine attr_of hab (thn (he.run pins s σ H _ I h) ?_)
  rintro u s1 ⟨x, H1, I1, rx, a, dx, fs, rfl, ea, prom⟩
  cases rx
  obtain ⟨mA, O, _⟩ := ins_get I1.hok ea
  obtain ⟨od, J, _⟩ := O.look
  obtain ⟨rest, rec_⟩ := prop.rec_
  have short : [Value.ref a].length = ps.length := (F.len _ _ _ _ prom).symm ▸ rfl
  have isCls : (PySem.W.clsIn X.K C).isSome = true := by
    obtain ⟨cd, e, _⟩ := PySem.W.any_some cls.hd
    rw [e]
    rfl
  refine PySem.W.get_bind I1.kIn J (PySem.W.plainGet_of (cls.get m)).1 (PySem.W.findObj_data isCls prop.at_ prop.get prop.tak) (PySem.W.plainGet_of (cls.get m)).2 (wpAny_call (PySem.W.prop_get (s := { s1 with toks := s1.toks + 1 }) I1.kIn rec_ ?_))
  have I2 := I1.tok (s1.toks + 1)
  refine codeAny_mono (F.run X.A.in1 X.stack _ H1 ⟨[.ref a], []⟩ [.ref a] [.ref a] Q E0 (hr.low hk).one I2.env0.in1 (by simpa using bind _ [.ref a] I2.kIn (by simpa using short)) (.cons rfl .nil) prom) ?_
  intro r s2 out
  cases r with
  | error er => exact (passL (X := X.nox) pins σ H1 _ er s2 (I2.wish _) out).elim
  | ok flow =>
    cases flow with
    | ret v =>
      obtain ⟨y, H2, I3, ry, qy⟩ := I2.after out
      have given := PySem.W.handedOut_of (handed_of ry)
      show wpAny _ _ (handedOut v) _ _ s2
      rw [given]
      exact wpAny_pure ⟨y, H2, I3, ry, qy⟩
    | next => exact out.elim
    | brk => exact out.elim
    | cont => exact out.elim
end
theorem Sep.news {M : List Addr} {H0 G0 G H H' : Hp} {O : List Addr} (S : Sep M H0 G0 G H O) (e : Same H H') (L : List Addr) (hL : ∀ a ∈ L, H a = none ∧ H' a ≠ none ∧ H0 a = none) : Sep M H0 G0 G H' (L ++ O) := by
  have S2 := S.same e
  refine ⟨S2.base, S2.pm, S2.sG, S2.g0, S2.gn, fun a ha => ?_⟩
  rcases List.mem_append.mp ha with h | h
  · obtain ⟨h1, h2, h3⟩ := hL a h
    exact ⟨S.gfree h1, h2, .inr h3⟩
  · exact S2.ow a h
theorem vv_chain {r r' : R2} {ta tb tc : TE} {σ : L2.St} {H : Hp} {x y z : V} {a b : Bool} (ha : Val ta σ H x) (hb : Val tb σ H y) (hc : Val tc σ H z) (h1 : ∀ Q : VK, Q (.bl a) H → r x y H Q) (h2 : ∀ Q : VK, Q (.bl b) H → r' y z H Q) :
    Val (tChain r r' ta tb tc) σ H (.bl (a && b)) := fun Q q => ha _ (hb _ (h1 _ ⟨a, rfl, by
  cases a with
  | true =>
    rw [if_pos rfl]
    exact hc _ (h2 _ q)
  | false =>
    rw [if_neg Bool.false_ne_true]
    exact q⟩))
/-! ### constants that are tuples, lists backwards, zip -/
theorem inV_ints (x : Int) : ∀ xs : List Int, inV (V.int x) (xs.map V.int) = decide (x ∈ xs)
  | [] => by simp [inV]
  | y :: r => by
    have h := inV_ints x r
    unfold inV at h ⊢
    rw [List.map_cons, List.any_cons, h]
    by_cases c : x = y
    · subst c
      simp [eqV]
    · simp [eqV, c, Ne.symm c]
theorem flat_ints : ∀ xs : List Int, (xs.map V.int).all flatV = true
  | [] => rfl
  | _ :: r => flat_ints r
def rInI (K : PySem.W.Frag) : R2 := fun x y H Q => ∃ (i : Int) (p : Addr) (xs : List Int), x = .int i ∧ y = .ref p ∧ (SqL K H p (xs.map V.int) ∨ SqT K H p (xs.map V.int)) ∧ Q (.bl (decide (i ∈ xs))) H
def rNotInI (K : PySem.W.Frag) : R2 := fun x y H Q => ∃ (i : Int) (p : Addr) (xs : List Int), x = .int i ∧ y = .ref p ∧ (SqL K H p (xs.map V.int) ∨ SqT K H p (xs.map V.int)) ∧ Q (.bl (!decide (i ∈ xs))) H
theorem op_inI {X : Cx} {K : PySem.W.Frag} (hK : X.K = K := by rfl) : OpR X (compareOp .In) (rInI K) := by
  subst hK
  intro pins s σ H x y v u Q I rx ry h
  obtain ⟨i, p, xs, rfl, rfl, hs, q⟩ := h
  refine op_in_seq pins s σ H _ _ v u Q I rx ry ⟨p, _, rfl, hs, rfl, flat_ints xs, ?_⟩
  rw [if_neg Bool.false_ne_true, inV_ints]
  exact q
theorem op_notInI {X : Cx} {K : PySem.W.Frag} (hK : X.K = K := by rfl) : OpR X (compareOp .NotIn) (rNotInI K) := by
  subst hK
  intro pins s σ H x y v u Q I rx ry h
  obtain ⟨i, p, xs, rfl, rfl, hs, q⟩ := h
  refine op_notIn_seq pins s σ H _ _ v u Q I rx ry ⟨p, _, rfl, hs, rfl, flat_ints xs, ?_⟩
  rw [if_pos rfl, inV_ints]
  exact q
theorem pe_revLK {X : Cx} {K : PySem.W.Frag} {e : Expr} {te : TE} {k : Nat} {p1 p2 p3 pos : Pos} (he : PE X e te) (hK : X.K = K := by rfl) : PE X (.Subscript e (.Slice none none (some (.UnaryOp .USub (.Constant (.int 1) k p1) p2)) p3) pos) (tRevL K te) := hK ▸ pe_revL he
theorem rev_map {α : Type} {f : α → V} {xs : List α} {H : Hp} {p : Addr} (h : H p = some (.lst (xs.map f).reverse)) : H p = some (.lst (xs.reverse.map f)) := by
  rw [List.map_reverse]
  exact h
theorem RpAll.rev {G : Hp} : ∀ {vs : List V} {ds : List PyData}, RpAll G vs ds → RpAll G vs.reverse ds.reverse
  | _, _, .nil => .nil
  | _, _, .cons h t => by
    rw [List.reverse_cons, List.reverse_cons]
    exact (RpAll.rev t).append (.one h)
theorem rev_all {α : Type} {f : α → PyData} {xs : List α} {G : Hp} {vs : List V} (a : RpAll G vs (xs.map f)) : RpAll G vs.reverse (xs.reverse.map f) := by
  rw [List.map_reverse]
  exact a.rev
theorem pi_zipK {X : Cx} {K : PySem.W.Frag} {e e2 : Expr} {ta : TA} {p pos tpos : Pos} {elts : List Expr} {kk : Nat} (hg : Gl X "zip") (hm : X.mg "zip" = none) (ha : PA X [e, e2] ta) (hK : X.K = K := by rfl)
    (hs : starEach [e, e2] X.env = (false, eval e X.env) :: starEach [e2] X.env := by rfl) (hpl : (backTo pos (starEach [e2] X.env)).any (·.1) = false := by rfl) :
    PI X (.Tuple elts kk tpos) (.Call (.Name "zip" p) [e, e2] [] pos) (RZ.iZipA K ta) := hK ▸ RZ.pi_zipA hg hm ha hs hpl
/-- a comprehension over zip of two lists of one length -/
theorem lc_zipL {K : PySem.W.Frag} {a b : Addr} {xs ys : List V} {g : TG} {tt : TT} {te : TE} {vs : List Nat} {σ : L2.St} {H1 : Hp} {D : Addr} {Qd : Hp → Prop} (hl : xs.length = ys.length) (Pv : Nat → Hp → Prop) (h0 : Pv 0 (upd H1 D (.lst []))) (hq : ∀ i H, i ≤ xs.length → Pv i H → SqL K H a xs ∧ SqL K H b ys)
    (hs : ∀ (i : Nat) (x y : V) (T : Addr) (H : Hp), xs[i]? = some x → ys[i]? = some y → H T = none → Pv i H → g (.ref T) (wipe σ vs) (upd H T (.tup [x, y])) fun σ2 H2 => wipe σ2 vs = wipe σ vs ∧ tt σ2 H2 fun b H3 =>
      if b = true then te σ2 H3 fun y H4 => ∃ acc, H4 D = some (.lst acc) ∧ acc.length < sizeLine ∧ Pv (i + 1) (upd H4 D (.lst (acc ++ [y]))) else Pv (i + 1) H3) (hd : ∀ H, Pv xs.length H → Qd H) :
    ∃ W : Nat → Nat → Hp → Prop, (∃ m, W 0 m (upd H1 D (.lst []))) ∧ ∀ i m H, W i m H →
      ((Itz K a b).stop i H ∧ Qd H) ∨ ((Itz K a b).go i H ∧ ∃ Nx : Hp → Prop, (∀ H', Nx H' → ∃ m', m' < m ∧ W (i + 1) m' H') ∧ ∀ x H', (Itz K a b).yld i H x H' → g x (wipe σ vs) H' fun σ2 H2 => wipe σ2 vs = wipe σ vs ∧ tt σ2 H2 fun b H3 =>
        if b = true then te σ2 H3 fun y H4 => ∃ acc, H4 D = some (.lst acc) ∧ acc.length < sizeLine ∧ Nx (upd H4 D (.lst (acc ++ [y]))) else Nx H3) := by
  refine ⟨fun i m H => m = xs.length - i ∧ i ≤ xs.length ∧ Pv i H, ⟨xs.length, by simp, Nat.zero_le _, h0⟩, ?_⟩
  rintro i m H ⟨rfl, hi, p⟩
  obtain ⟨qx, qy⟩ := hq i H hi p
  by_cases hlt : i < xs.length
  · have hlt2 : i < ys.length := by omega
    refine .inr ⟨⟨xs, ys, xs[i], ys[i], qx, qy, List.getElem?_eq_getElem hlt, List.getElem?_eq_getElem hlt2⟩, Pv (i + 1), fun H' p' => ⟨xs.length - (i + 1), by omega, rfl, hlt, p'⟩, fun v H' y => ?_⟩
    obtain ⟨T, x', y', rfl, hT, rfl, f1, f2⟩ := y
    exact hs i x' y' T H (f1 xs qx) (f2 ys qy) hT p
  · have e : i = xs.length := by omega
    subst e
    exact .inl ⟨⟨xs, ys, qx, qy, Or.inl (Nat.le_refl _)⟩, hd H p⟩
theorem zip_get {α β : Type} {xs : List α} {ys : List β} {i : Nat} {x : α} {y : β} (h1 : xs[i]? = some x) (h2 : ys[i]? = some y) : (xs.zip ys)[i]? = some (x, y) := by
  rw [List.getElem?_zip_eq_some]
  exact ⟨h1, h2⟩
theorem zip_len {α β : Type} {xs : List α} {ys : List β} {n : Nat} (h : xs.length = ys.length) (e : n = xs.length) : n = (xs.zip ys).length := by
  rw [List.length_zip, ← h, Nat.min_self]
  exact e
theorem zlen {α β : Type} {vs ws : List V} {xs : List α} {ys : List β} (a : vs.length = xs.length) (b : ws.length = ys.length) (h : xs.length = ys.length) : vs.length = ws.length := by rw [a, b, h]
section
variable {t : TT} {ta tb : TE} {σ : L2.St} {H : Hp}
theorem vv_ifP {p : Prop} [Decidable p] {a b : Int} (ht : Ans t σ H (decide p)) (hx : p → Val ta σ H (.int a)) (hy : ¬ p → Val tb σ H (.int b)) : Val (tIf t ta tb) σ H (.int (if p then a else b)) := by
  by_cases h : p
  · have := vv_if (p := p) (a := a) (b := a) ht (hx h) (tb := ta) (hx h)
    intro Q q
    refine ht _ ?_
    rw [decide_eq_true h, if_pos rfl]
    rw [if_pos h] at q
    exact hx h _ q
  · intro Q q
    refine ht _ ?_
    rw [decide_eq_false h, if_neg Bool.false_ne_true]
    rw [if_neg h] at q
    exact hy h _ q
theorem vv_ifQ {c : Bool} {a b : Int} (ht : Ans t σ H c) (hx : c = true → Val ta σ H (.int a)) (hy : c = false → Val tb σ H (.int b)) : Val (tIf t ta tb) σ H (.int (if c = true then a else b)) := by
  intro Q q
  refine ht _ ?_
  cases c with
  | true =>
    rw [if_pos rfl]
    rw [if_pos rfl] at q
    exact hx rfl _ q
  | false =>
    rw [if_neg Bool.false_ne_true]
    rw [if_neg Bool.false_ne_true] at q
    exact hy rfl _ q
end
theorem kit_mk0 {K : PySem.W.Frag} {S C : Addr} (h1 : (Value.ref S == Value.ref C) = false) (h2 : PySem.W.isClsIn K C = true) (h3 : PySem.W.typeIn K (.ref C) = some (.type "type")) (h4 : PySem.W.subIn K (.ref S) (.ref C) = some false) :
    PySem.W.kitOne K (.ref S) (.ref C) = some false := by
  unfold PySem.W.isClsIn at h2
  unfold PySem.W.kitOne
  rw [if_neg (by rw [h1]; exact Bool.false_ne_true)]
  unfold PySem.W.kitCls
  simp only [h2, h3, h4, beq_self_eq_true, Bool.and_self, if_true]
theorem vv_call2 {ta tb : TE} {σ : L2.St} {H : Hp} {x y z : V} {r : List V → Hp → VK → Prop} (ha : Val ta σ H x) (hb : Val tb σ H y) (hr : ∀ Q : VK, Q z H → r [x, y] H Q) : Val (tCB r (tCons ta (tCons tb tNil))) σ H z := fun Q q => ha _ (hb _ (hr Q q))
/-! ### lists of data that the caller owns; values that are a truth value or a number -/
theorem Sep.stepnew {M : List Addr} {H0 G0 G H H' : Hp} {O : List Addr} {p : Addr} {o : HO} (S : Sep M H0 G0 G H O) {G' : Hp} (e : Same H H') (eG : Same G G') (sG : Same G' H') (hn : ∀ b, H b ≠ none → G b = none → G' b = none) (_n : H p = none) (h : H' p = some o) (g : G' p = none) (hm : H0 p = none) : Sep M H0 G0 G' H' (p :: O) := by
  have S2 := S.step e eG sG hn
  refine ⟨S2.base, S2.pm, S2.sG, S2.g0, S2.gn, fun a ha => ?_⟩
  rcases List.mem_cons.mp ha with rfl | ha
  · exact ⟨g, (fun z => by rw [z] at h; cases h), .inr hm⟩
  · exact S2.ow a ha
inductive Bi where
  | b (x : Bool)
  | n (i : Int)
deriving DecidableEq
def biV : Bi → V
  | .b x => .bl x
  | .n i => .int i
def Bi.el {α : Type} (v : Bi) (f : Bool → α) (g : Int → α) : α :=
  match v with
  | .b x => f x
  | .n i => g i
theorem cW_elb {α : Type} {x : Bool} {f : Bool → Rx α} {g : Int → Rx α} {K : α → Prop} {E : Nat → Prop} (h : cW (Bi.el (.b x) f g) K E) : cW (f x) K E := h
theorem cW_eln {α : Type} {x : Int} {f : Bool → Rx α} {g : Int → Rx α} {K : α → Prop} {E : Nat → Prop} (h : cW (Bi.el (.n x) f g) K E) : cW (g x) K E := h
theorem rp_tup4 {α β γ δ : Type} {f : α → PyData} {g : β → PyData} {h : γ → PyData} {i : δ → PyData} {H : Hp} {v : V} {x : α × β × γ × δ} (r : Rp H v (encT4 f g h i x)) : ∃ a v1 v2 v3 v4, v = .ref a ∧ H a = some (.tup [v1, v2, v3, v4]) ∧ Rp H v1 (f x.1) ∧ Rp H v2 (g x.2.1) ∧ Rp H v3 (h x.2.2.1) ∧ Rp H v4 (i x.2.2.2) := by
  unfold encT4 at r
  cases r with
  | tup h1 h2 =>
    cases h2 with
    | cons a b =>
      cases b with
      | cons b c =>
        cases c with
        | cons c d =>
          cases d with
          | cons d e =>
            cases e
            exact ⟨_, _, _, _, _, rfl, h1, a, b, c, d⟩
theorem rp_mk4 {α β γ δ : Type} {f : α → PyData} {g : β → PyData} {h : γ → PyData} {i : δ → PyData} {H : Hp} {a : Addr} {v1 v2 v3 v4 : V} {x : α} {y : β} {z : γ} {w : δ} (h1 : H a = some (.tup [v1, v2, v3, v4])) (r1 : Rp H v1 (f x)) (r2 : Rp H v2 (g y)) (r3 : Rp H v3 (h z)) (r4 : Rp H v4 (i w)) : Rp H (.ref a) (encT4 f g h i (x, y, z, w)) := .tup h1 (.cons r1 (.cons r2 (.cons r3 (.cons r4 .nil))))
theorem Sep.b0M {M : List Addr} {H0 G0 G H : Hp} {O : List Addr} (S : Sep M H0 G0 G H O) (h : ∀ a ∈ M, H a = H0 a) : Same H0 H := fun b o e => by
  by_cases z : b ∈ M
  · rw [h b z]
    exact e
  · exact S.base b o e z
section
variable {X : Cx} {k j n : Nat} {f C : Addr} {fd : FuncData} {ps ks : List Str} {g : List V → List V → List V} {sp : Sp} {x m : Str} {pos p apos : Pos} {e o : Expr} {es : List Expr} {kws : List Keyword} {ta : TE} {t tk : TA} {W : WX}
/-- keywords alone -/
theorem vx_makeXK {pats : List Pat} (c : MakX X.prog X.w X.K X.mg X.base k x C sp pats) (pt : Pat) (hpt : pt ∈ pats) (hr : RoomG j X.A) (hk : k + 1 ≤ j) (tkW : Takes X W) (hg : Gl X x) (hkw : PK X kws tk)
    (hall : (backToKw pos (keywordEach kws X.env)).all (·.1.isSome) = true := by rfl) (hks : (backToKw pos (keywordEach kws X.env)).filterMap (·.1) = pt.2.1 := by rfl) (hdb : (x == ("__debug__" : Str)) = false := by decide)
    (hpl : ((backTo pos (starEach [] X.env)).any (·.1) || (backToKw pos (keywordEach kws X.env)).any (·.1.isNone)) = false := by rfl) :
    PE X (.Call (.Name x p) [] kws pos) (tMakeX C pt.1 pt.2.1.length sp pt.2.2 W tNil tk) := by
  obtain ⟨f, fd, ps, M, F, hm, b⟩ := c.ex
  refine ⟨fun pins s σ H Q I h => ?_⟩
  refine wpAny_Call_Name_kw (ld_glob I hg hm ?_ hdb)
  refine PySem.W.callWith_KW0 (h₀ := X.base) I.ok.mod.kin M.kp hall ?_ hpl
  refine thn (hkw.run pos pins s σ H _ I h) fun ws s2 ⟨zs, H2, I2, rz, l1, l2, q2⟩ => ⟨I2.kIn, ?_⟩
  rw [hks]
  exact run_mkX (us := []) (vs := []) M F (hr.low hk) (b pt hpt) tkW I2 .nil rz l1 l2 q2
theorem vx_callXK {pats : List Pat} (c : CalX X.prog X.w X.K X.mg X.base k x sp pats) (pt : Pat) (hpt : pt ∈ pats) (hr : RoomG j X.A) (hk : k ≤ j) (tkW : Takes X W) (hg : Gl X x) (hkw : PK X kws tk)
    (hall : (backToKw pos (keywordEach kws X.env)).all (·.1.isSome) = true := by rfl) (hks : (backToKw pos (keywordEach kws X.env)).filterMap (·.1) = pt.2.1 := by rfl) (hdb : (x == ("__debug__" : Str)) = false := by decide)
    (hpl : ((backTo pos (starEach [] X.env)).any (·.1) || (backToKw pos (keywordEach kws X.env)).any (·.1.isNone)) = false := by rfl) :
    PE X (.Call (.Name x p) [] kws pos) (tCallX pt.1 pt.2.1.length sp pt.2.2 W tNil tk) := by
  obtain ⟨f, fd, ps, F, hm, kp, b⟩ := c.ex
  refine ⟨fun pins s σ H Q I h => ?_⟩
  refine wpAny_Call_Name_kw (ld_glob I hg hm ?_ hdb)
  refine PySem.W.callWith_KW0 (h₀ := X.base) I.ok.mod.kin kp hall ?_ hpl
  refine thn (hkw.run pos pins s σ H _ I h) fun ws s2 ⟨zs, H2, I2, rz, l1, l2, q2⟩ => ⟨I2.kIn, ?_⟩
  rw [hks]
  exact run_X (us := []) (vs := []) F (hr.low hk) (b pt hpt) tkW I2 .nil rz l1 l2 q2
theorem vx_methXK {pats : List Pat} {pl : Sem Bool} (c : MetX X.prog X.w X.K X.mg X.base k C m sp pats) (pt : Pat) (hpt : pt ∈ pats) (hr : RoomG j X.A) (hk : k ≤ j) (tkW : Takes X W) (he : PE X o ta) (hkw : PK X kws tk)
    (hall : (backToKw pos (keywordEach kws X.env)).all (·.1.isSome) = true := by rfl) (hks : (backToKw pos (keywordEach kws X.env)).filterMap (·.1) = pt.2.1 := by rfl)
    (hpl : ((backTo pos (starEach [] X.env)).any (·.1) || (backToKw pos (keywordEach kws X.env)).any (·.1.isNone)) = false := by rfl)
    (ht : eval (.Call (.Attribute o m apos) [] kws pos) X.env = (do
      let ov ← eval o X.env
      standAt apos.atName
      let (f, first) ← holding [ov] (getMethod ov m pl)
      callWith pos f first (backTo pos (starEach [] X.env)) (backToKw pos (keywordEach kws X.env))) := by rfl) :
    PE X (.Call (.Attribute o m apos) [] kws pos) (tMethX C m pt.1 pt.2.1.length sp pt.2.2 W ta tNil tk) := by
  obtain ⟨f, fd, ps, hc, hm, F, b⟩ := c.ex
  refine ⟨fun pins s σ H Q I h => ?_⟩
  refine PySem.W.methodCall_KW (pl := pl) (thn (he.run pins s σ H _ I h) fun u s1 ⟨x, H1, I1, rx, a, dx, fs, ex, ea, l, q⟩ => ?_) ht
  subst ex
  obtain rfl : u = Value.ref a := rx
  refine getmeth_ok I1 ea hc hm l ?_
  refine PySem.W.callWith_KW0 (first := [.ref a]) (h₀ := X.base) I.ok.mod.kin hm.kp hall ?_ hpl
  refine thn (hkw.run pos pins s1 σ H1 _ I1 q) fun ws s3 ⟨zs, H3, I3, rz, l1, l2, q3⟩ => ⟨I3.kIn, ?_⟩
  rw [hks]
  exact run_X (us := [.ref a]) (vs := [.ref a]) F (hr.low hk) (b pt hpt) tkW I3 (.cons rfl .nil) rz l1 l2 q3
end
end Vx
/-! # lists within lists that are owned as a whole -/
namespace Vx
open PySem PySem.Spec PyProof.Rows L2
inductive Kd where
  | lst
  | tup
  | ins (C dx : Addr) (ns : List Str)
def Kd.ho : Kd → List V → HO
  | .lst, vs => .lst vs
  | .tup, vs => .tup vs
  | .ins C dx ns, vs => .ins C dx (ns.zip vs)
/-- what stands in the heap as a tree: values as they are, data that stay, nodes of its own -/
inductive Dt where
  | val (v : V)
  | frz (d : PyData)
  | nod (k : Kd) (xs : List Dt)
mutual
inductive Ow (G H : Hp) : List Addr → V → Dt → Prop
  | val (v : V) : Ow G H [] v (.val v)
  | frz {v : V} {d : PyData} : Rp G v d → Ow G H [] v (.frz d)
  | nod {a : Addr} {k : Kd} {vs : List V} {ds : List Dt} {L : List Addr} : H a = some (k.ho vs) → OwAll G H L vs ds → a ∉ L → Ow G H (a :: L) (.ref a) (.nod k ds)
inductive OwAll (G H : Hp) : List Addr → List V → List Dt → Prop
  | nil : OwAll G H [] [] []
  | cons {L1 L2 : List Addr} {v : V} {vs : List V} {d : Dt} {ds : List Dt} : Ow G H L1 v d → OwAll G H L2 vs ds → (∀ b ∈ L1, b ∉ L2) → OwAll G H (L1 ++ L2) (v :: vs) (d :: ds)
end
def Keeps (L : List Addr) (H H' : Hp) : Prop := ∀ b ∈ L, ∀ o, H b = some o → H' b = some o
mutual
theorem Ow.mono {G G' H H' : Hp} (e : Same G G') : ∀ {L : List Addr} {v : V} {d : Dt}, Keeps L H H' → Ow G H L v d → Ow G' H' L v d
  | _, _, _, _, .val v => .val v
  | _, _, _, _, .frz r => .frz (r.mono e)
  | _, _, _, k, .nod h r n => .nod (k _ List.mem_cons_self _ h) (OwAll.mono e (fun b hb => k b (List.mem_cons_of_mem _ hb)) r) n
theorem OwAll.mono {G G' H H' : Hp} (e : Same G G') : ∀ {L : List Addr} {vs : List V} {ds : List Dt}, Keeps L H H' → OwAll G H L vs ds → OwAll G' H' L vs ds
  | _, _, _, _, .nil => .nil
  | _, _, _, k, .cons a r d => .cons (Ow.mono e (fun b hb => k b (List.mem_append_left _ hb)) a) (OwAll.mono e (fun b hb => k b (List.mem_append_right _ hb)) r) d
end
mutual
theorem Ow.there {G H : Hp} : ∀ {L : List Addr} {v : V} {d : Dt}, Ow G H L v d → ∀ b ∈ L, H b ≠ none
  | _, _, _, .val _, _, hb => nomatch hb
  | _, _, _, .frz _, _, hb => nomatch hb
  | _, _, _, .nod h r n, b, hb => by
    rcases List.mem_cons.mp hb with rfl | hb
    · exact some_ne h
    · exact OwAll.there r b hb
theorem OwAll.there {G H : Hp} : ∀ {L : List Addr} {vs : List V} {ds : List Dt}, OwAll G H L vs ds → ∀ b ∈ L, H b ≠ none
  | _, _, _, .nil, _, hb => nomatch hb
  | _, _, _, .cons a r d, b, hb => by
    rcases List.mem_append.mp hb with hb | hb
    · exact Ow.there a b hb
    · exact OwAll.there r b hb
end
theorem OwAll.len {G H : Hp} : ∀ {L : List Addr} {vs : List V} {ds : List Dt}, OwAll G H L vs ds → vs.length = ds.length
  | _, _, _, .nil => rfl
  | _, _, _, .cons _ r _ => congrArg Nat.succ r.len
theorem OwAll.snoc {G H : Hp} {L1 : List Addr} {v : V} {d : Dt} (h : Ow G H L1 v d) : ∀ {L : List Addr} {vs : List V} {ds : List Dt}, OwAll G H L vs ds → (∀ b ∈ L, b ∉ L1) → OwAll G H (L ++ L1) (vs ++ [v]) (ds ++ [d])
  | _, _, _, .nil, _ => by
    have z : OwAll G H (L1 ++ []) [v] [d] := .cons h .nil (fun _ _ z => nomatch z)
    rw [List.append_nil] at z
    exact z
  | _, _, _, .cons (L1 := La) (L2 := Lb) a r n, k => by
    have z := OwAll.cons a (OwAll.snoc h r fun b hb => k b (List.mem_append_right _ hb)) (fun b hb q => by
      rcases List.mem_append.mp q with q | q
      · exact n b hb q
      · exact k b (List.mem_append_left _ hb) q)
    rw [← List.append_assoc] at z
    exact z
theorem OwAll.app {G H : Hp} {L2 : List Addr} {ws : List V} {es : List Dt} (h : OwAll G H L2 ws es) : ∀ {L : List Addr} {vs : List V} {ds : List Dt}, OwAll G H L vs ds → (∀ b ∈ L, b ∉ L2) → OwAll G H (L ++ L2) (vs ++ ws) (ds ++ es)
  | _, _, _, .nil, _ => h
  | _, _, _, .cons (L1 := La) (L2 := Lb) a r n, k => by
    have z := OwAll.cons a (OwAll.app h r fun b hb => k b (List.mem_append_right _ hb)) (fun b hb q => by
      rcases List.mem_append.mp q with q | q
      · exact n b hb q
      · exact k b (List.mem_append_left _ hb) q)
    rw [← List.append_assoc] at z
    exact z
/-! ### trees that are data -/
mutual
inductive Dd : Dt → PyData → Prop
  | non : Dd (.val .non) .none
  | bl (b : Bool) : Dd (.val (.bl b)) (.bool b)
  | int (i : Int) : Dd (.val (.int i)) (.int i)
  | str (x : Str) : Dd (.val (.str x)) (.str x)
  | frz (d : PyData) : Dd (.frz d) d
  | lst {xs : List Dt} {ds : List PyData} : DdAll xs ds → Dd (.nod .lst xs) (.list ds)
  | tup {xs : List Dt} {ds : List PyData} : DdAll xs ds → Dd (.nod .tup xs) (.tuple ds)
inductive DdAll : List Dt → List PyData → Prop
  | nil : DdAll [] []
  | cons {x : Dt} {xs : List Dt} {d : PyData} {ds : List PyData} : Dd x d → DdAll xs ds → DdAll (x :: xs) (d :: ds)
end
mutual
/-- read in any heap that holds its nodes -/
theorem Ow.rp {G H I : Hp} (e : Same G I) : ∀ {L : List Addr} {v : V} {d : Dt} {p : PyData}, Keeps L H I → Ow G H L v d → Dd d p → Rp I v p
  | _, _, _, _, _, .val _, .non => .non
  | _, _, _, _, _, .val _, .bl b => .bl b
  | _, _, _, _, _, .val _, .int i => .int i
  | _, _, _, _, _, .val _, .str x => .str x
  | _, _, _, _, _, .frz r, .frz _ => r.mono e
  | _, _, _, _, k, .nod h r _, .lst q => .lst (k _ List.mem_cons_self _ h) (OwAll.rp e (fun b hb => k b (List.mem_cons_of_mem _ hb)) r q)
  | _, _, _, _, k, .nod h r _, .tup q => .tup (k _ List.mem_cons_self _ h) (OwAll.rp e (fun b hb => k b (List.mem_cons_of_mem _ hb)) r q)
theorem OwAll.rp {G H I : Hp} (e : Same G I) : ∀ {L : List Addr} {vs : List V} {ds : List Dt} {ps : List PyData}, Keeps L H I → OwAll G H L vs ds → DdAll ds ps → RpAll I vs ps
  | _, _, _, _, _, .nil, .nil => .nil
  | _, _, _, _, k, .cons a r _, .cons x xs => .cons (Ow.rp e (fun b hb => k b (List.mem_append_left _ hb)) a x) (OwAll.rp e (fun b hb => k b (List.mem_append_right _ hb)) r xs)
end
def oI (i : Int) : Dt := .val (.int i)
def oB (b : Bool) : Dt := .val (.bl b)
def oF {α : Type} (f : α → PyData) (x : α) : Dt := .frz (f x)
def oL {α : Type} (f : α → Dt) (xs : List α) : Dt := .nod .lst (xs.map f)
def EncO {α : Type} (f : α → Dt) (g : α → PyData) : Prop := ∀ x, Dd (f x) (g x)
theorem encO_I : EncO oI PyData.int := fun i => .int i
theorem encO_B : EncO oB PyData.bool := fun i => .bl i
theorem encO_F {α : Type} {f : α → PyData} : EncO (oF f) f := fun _ => .frz _
theorem EncO.all {α : Type} {f : α → Dt} {g : α → PyData} (h : EncO f g) : ∀ xs : List α, DdAll (xs.map f) (xs.map g)
  | [] => .nil
  | x :: xs => .cons (h x) (EncO.all h xs)
theorem encO_L {α : Type} {f : α → Dt} {g : α → PyData} (h : EncO f g) : EncO (oL f) (encL g) := fun xs => .lst (h.all xs)
theorem keeps_same {L : List Addr} {H H' : Hp} (e : Same H H') : Keeps L H H' := fun b _ o q => e b o q
theorem keeps_refl {L : List Addr} {H : Hp} : Keeps L H H := fun _ _ _ q => q
theorem keeps_mut {L : List Addr} {H H' : Hp} {m : Addr} (x : SameX m H H') (n : ∀ b ∈ L, b ≠ m) : Keeps L H H' := fun b hb o q => x b o q (n b hb)
theorem keeps_muts {L M : List Addr} {H H' : Hp} (x : SameXs M H H') (n : ∀ b ∈ L, b ∉ M) : Keeps L H H' := fun b hb o q => x b o q (n b hb)
theorem keeps_hide {L M : List Addr} {H : Hp} (n : ∀ b ∈ L, b ∉ M) : Keeps L H (hideL M H) := fun b hb o q => by
  rw [hideL_out (n b hb)]
  exact q
section
variable {α : Type} {f : α → Dt} {g : α → PyData} {G H I : Hp} {L : List Addr} {vs : List V} {xs : List α}
theorem OwAll.rpA (w : OwAll G H L vs (xs.map f)) (h : EncO f g) (e : Same G H) : RpAll H vs (xs.map g) := OwAll.rp e keeps_refl w (h.all xs)
theorem OwAll.rpH (w : OwAll G H L vs (xs.map f)) (h : EncO f g) (e : Same G I) (k : Keeps L H I) : RpAll I vs (xs.map g) := OwAll.rp e k w (h.all xs)
theorem OwAll.lenM (w : OwAll G H L vs (xs.map f)) : vs.length = xs.length := by rw [w.len, List.length_map]
theorem OwAll.snocM {L1 : List Addr} {v : V} {y : α} (w : OwAll G H L vs (xs.map f)) (h : Ow G H L1 v (f y)) (n : ∀ b ∈ L, b ∉ L1) : OwAll G H (L ++ L1) (vs ++ [v]) ((xs ++ [y]).map f) := by
  rw [List.map_append]
  exact OwAll.snoc h w n
theorem Ow.ints {a : Addr} {ys : List Int} (h : H a = some (.lst (ys.map V.int))) : Ow G H [a] (.ref a) (oL oI ys) := by
  have z : ∀ ys : List Int, OwAll G H [] (ys.map V.int) (ys.map oI) := fun ys => by
    induction ys with
    | nil => exact .nil
    | cons y r ih => exact .cons (L1 := []) (L2 := []) (.val _) ih (fun _ z => nomatch z)
  exact .nod (k := .lst) h (z ys) (fun z => nomatch z)
theorem Ow.list {a : Addr} {xs : List α} {L : List Addr} {vs : List V} (h : H a = some (.lst vs)) (w : OwAll G H L vs (xs.map f)) (n : ∀ b ∈ L, b ≠ a) : Ow G H (a :: L) (.ref a) (oL f xs) := .nod (k := .lst) h w (fun z => n a z rfl)
theorem Ow.toList {v : V} {L : List Addr} {xs : List α} (w : Ow G H L v (oL f xs)) : ∃ a vs L', v = .ref a ∧ L = a :: L' ∧ H a = some (.lst vs) ∧ OwAll G H L' vs (xs.map f) ∧ ∀ b ∈ L', b ≠ a := by
  unfold oL at w
  cases w with
  | nod h r n => exact ⟨_, _, _, rfl, rfl, h, r, fun b hb z => n (z ▸ hb)⟩
theorem OwAll.toInts : ∀ {L : List Addr} {vs : List V} {xs : List Int}, OwAll G H L vs (xs.map oI) → L = [] ∧ vs = xs.map V.int
  | _, _, [], .nil => ⟨rfl, rfl⟩
  | _, _, x :: xs, .cons a r _ => by
    obtain ⟨h1, h2⟩ := OwAll.toInts r
    cases a
    exact ⟨by rw [h1] <;> rfl, by rw [h2] <;> rfl⟩
theorem Ow.toInts {v : V} {L : List Addr} {xs : List Int} (w : Ow G H L v (oL oI xs)) : ∃ a, v = .ref a ∧ L = [a] ∧ H a = some (.lst (xs.map V.int)) := by
  obtain ⟨a, vs, L', rfl, rfl, h, r, _⟩ := w.toList
  obtain ⟨rfl, rfl⟩ := r.toInts
  exact ⟨a, rfl, rfl, h⟩
/-- the part at a place, and how a change of it alone changes the whole -/
theorem OwAll.part : ∀ {L : List Addr} {vs : List V} {ds : List Dt} {i : Nat} {d : Dt}, OwAll G H L vs ds → ds[i]? = some d → ∃ v L1, vs[i]? = some v ∧ Ow G H L1 v d ∧ (∀ b ∈ L1, b ∈ L) ∧
    ∀ H' d', (∀ b ∈ L, b ∉ L1 → ∀ o, H b = some o → H' b = some o) → Ow G H' L1 v d' → OwAll G H' L vs (ds.set i d')
  | _, _, _, _, _, .nil, h => by simp at h
  | _, _, _, 0, _, .cons (L1 := La) (L2 := Lb) a r n, h => by
    simp at h
    subst h
    refine ⟨_, La, rfl, a, fun b hb => List.mem_append_left _ hb, fun H' d' k w => ?_⟩
    exact .cons w (OwAll.mono (Same.refl G) (fun b hb => k b (List.mem_append_right _ hb) fun z => n b z hb) r) n
  | _, _, _, i + 1, _, .cons (L1 := La) (L2 := Lb) a r n, h => by
    obtain ⟨v, L1, h1, h2, h3, h4⟩ := OwAll.part (i := i) r (by simpa using h)
    refine ⟨v, L1, by simpa using h1, h2, fun b hb => List.mem_append_right _ (h3 b hb), fun H' d' k w => ?_⟩
    refine .cons (Ow.mono (Same.refl G) (fun b hb => k b (List.mem_append_left _ hb) fun z => n b hb (h3 b z)) a) (h4 H' d' (fun b hb nb => k b (List.mem_append_right _ hb) nb) w) n
/-- the same, where the part grows: its new footprint is the old one and what is new -/
theorem OwAll.part2 : ∀ {L : List Addr} {vs : List V} {ds : List Dt} {i : Nat} {d : Dt}, OwAll G H L vs ds → ds[i]? = some d → ∃ v L1, vs[i]? = some v ∧ Ow G H L1 v d ∧ (∀ b ∈ L1, b ∈ L) ∧
    (∀ H' d', (∀ b ∈ L, b ∉ L1 → ∀ o, H b = some o → H' b = some o) → Ow G H' L1 v d' → OwAll G H' L vs (ds.set i d')) ∧
    ∀ H' d' Fv L1', (∀ b ∈ L, b ∉ L1 → ∀ o, H b = some o → H' b = some o) → (∀ b ∈ L1', b ∈ L1 ++ Fv) → (∀ b ∈ Fv, b ∉ L) → Ow G H' L1' v d' → ∃ L', (∀ b ∈ L', b ∈ L ++ Fv) ∧ OwAll G H' L' vs (ds.set i d')
  | _, _, _, _, _, .nil, h => by simp at h
  | _, _, _, 0, _, .cons (L1 := La) (L2 := Lb) a r n, h => by
    simp at h
    subst h
    refine ⟨_, La, rfl, a, fun b hb => List.mem_append_left _ hb, fun H' d' k w => ?_, fun H' d' Fv L1' k s nf w => ⟨L1' ++ Lb, fun b hb => ?_, ?_⟩⟩
    · exact .cons w (OwAll.mono (Same.refl G) (fun b hb => k b (List.mem_append_right _ hb) fun z => n b z hb) r) n
    · rcases List.mem_append.mp hb with hb | hb
      · rcases List.mem_append.mp (s b hb) with q | q
        · exact List.mem_append_left _ (List.mem_append_left _ q)
        · exact List.mem_append_right _ q
      · exact List.mem_append_left _ (List.mem_append_right _ hb)
    · refine .cons w (OwAll.mono (Same.refl G) (fun b hb => k b (List.mem_append_right _ hb) fun z => n b z hb) r) fun b hb q => ?_
      rcases List.mem_append.mp (s b hb) with z | z
      · exact n b z q
      · exact nf b z (List.mem_append_right _ q)
  | _, _, _, i + 1, _, .cons (L1 := La) (L2 := Lb) a r n, h => by
    obtain ⟨v, L1, h1, h2, h3, h4, h5⟩ := OwAll.part2 (i := i) r (by simpa using h)
    refine ⟨v, L1, by simpa using h1, h2, fun b hb => List.mem_append_right _ (h3 b hb), fun H' d' k w => ?_, fun H' d' Fv L1' k s nf w => ?_⟩
    · refine .cons (Ow.mono (Same.refl G) (fun b hb => k b (List.mem_append_left _ hb) fun z => n b hb (h3 b z)) a) (h4 H' d' (fun b hb nb => k b (List.mem_append_right _ hb) nb) w) n
    · obtain ⟨L', s2, z⟩ := h5 H' d' Fv L1' (fun b hb nb => k b (List.mem_append_right _ hb) nb) s (fun b hb q => nf b hb (List.mem_append_right _ q)) w
      refine ⟨La ++ L', fun b hb => ?_, .cons (Ow.mono (Same.refl G) (fun b hb => k b (List.mem_append_left _ hb) fun z => n b hb (h3 b z)) a) z fun b hb q => ?_⟩
      · rcases List.mem_append.mp hb with hb | hb
        · exact List.mem_append_left _ (List.mem_append_left _ hb)
        · rcases List.mem_append.mp (s2 b hb) with q | q
          · exact List.mem_append_left _ (List.mem_append_right _ q)
          · exact List.mem_append_right _ q
      · rcases List.mem_append.mp (s2 b q) with y | y
        · exact n b hb y
        · exact nf b y (List.mem_append_left _ hb)
theorem OwAll.partM [Inhabited α] {k : Int} (w : OwAll G H L vs (xs.map f)) (h : -(xs.length : Int) ≤ k ∧ k < xs.length) : ∃ v L1, atI vs k = some v ∧ Ow G H L1 v (f (itD xs k)) ∧ (∀ b ∈ L1, b ∈ L) ∧
    (∀ H' y, (∀ b ∈ L, b ∉ L1 → ∀ o, H b = some o → H' b = some o) → Ow G H' L1 v (f y) → OwAll G H' L vs ((setL xs k y).map f)) ∧
    ∀ H' y Fv L1', (∀ b ∈ L, b ∉ L1 → ∀ o, H b = some o → H' b = some o) → (∀ b ∈ L1', b ∈ L1 ++ Fv) → (∀ b ∈ Fv, b ∉ L) → Ow G H' L1' v (f y) → ∃ L', (∀ b ∈ L', b ∈ L ++ Fv) ∧ OwAll G H' L' vs ((setL xs k y).map f) := by
  obtain ⟨j, e, hj⟩ := ixN_some h
  have hx := List.getElem?_eq_getElem hj
  obtain ⟨v, L1, h1, h2, h3, h4, h5⟩ := OwAll.part2 (i := j) (d := f xs[j]) w (by rw [List.getElem?_map, hx] <;> rfl)
  have ei : itD xs k = xs[j] := by
    unfold itD atI
    rw [e]
    show (xs[j]?).getD default = _
    rw [hx] <;> rfl
  refine ⟨v, L1, ?_, by rw [ei]; exact h2, h3, fun H' y q w2 => ?_, fun H' y Fv L1' q s nf w2 => ?_⟩
  · unfold atI
    rw [w.lenM, e]
    exact h1
  · have z := h4 H' (f y) q w2
    unfold setL
    rw [e, List.map_set]
    exact z
  · obtain ⟨L', s2, z⟩ := h5 H' (f y) Fv L1' q s nf w2
    refine ⟨L', s2, ?_⟩
    unfold setL
    rw [e, List.map_set]
    exact z
theorem grow_keeps {L L1 : List Addr} {m : Addr} {H H1 H2 : Hp} (e : Same H H1) (x : SameX m H1 H2) (hm : m ∈ L1) : ∀ b ∈ L, b ∉ L1 → ∀ o, H b = some o → H2 b = some o := fun b _ n o q => x b o (e b o q) (fun z => n (z ▸ hm))
theorem grow_sub {a : Addr} {L' Lr Fv : List Addr} (h : ∀ b ∈ L', b ∈ Lr ++ Fv) : ∀ b ∈ a :: L', b ∈ (a :: Lr) ++ Fv := fun b hb => by
  rcases List.mem_cons.mp hb with rfl | hb
  · exact List.mem_cons_self
  · exact List.mem_cons_of_mem _ (h b hb)
/-- the item of a turn -/
theorem OwAll.turn {i : Nat} {v : V} (w : OwAll G H L vs (xs.map f)) (h : vs[i]? = some v) : ∃ x L1, xs[i]? = some x ∧ Ow G H L1 v (f x) ∧ ∀ b ∈ L1, b ∈ L := by
  have hl := get_len h
  have e := w.lenM
  have hx := List.getElem?_eq_getElem (show i < xs.length by omega)
  obtain ⟨v2, L1, h1, h2, h3, _⟩ := OwAll.part (i := i) (d := f xs[i]) w (by rw [List.getElem?_map, hx] <;> rfl)
  rw [h] at h1
  cases h1
  exact ⟨_, L1, hx, h2, h3⟩
end
/-! ### what is owned, in pieces -/
theorem all_app {P : Addr → Prop} {L l : List Addr} (h : ∀ x ∈ L, P x) (t : ∀ x ∈ l, P x) : ∀ x ∈ L ++ l, P x := fun x hx => by
  rcases List.mem_append.mp hx with q | q
  · exact h x q
  · exact t x q
theorem nm_nil {a : Addr} : a ∉ ([] : List Addr) := fun z => nomatch z
theorem nm_cons {a m : Addr} {l : List Addr} (h : a ≠ m) (t : a ∉ l) : a ∉ m :: l := fun z => by
  rcases List.mem_cons.mp z with q | q
  · exact h q
  · exact t q
theorem nm_app {a : Addr} {L l : List Addr} (h : a ∉ L) (t : a ∉ l) : a ∉ L ++ l := fun z => by
  rcases List.mem_append.mp z with q | q
  · exact h q
  · exact t q
theorem there_ne {H : Hp} {L : List Addr} {x : Addr} (t : ∀ b ∈ L, H b ≠ none) (n : H x = none) : ∀ b ∈ L, b ≠ x := fun b hb z => t b hb (z ▸ n)
theorem new_ne {H : Hp} {L : List Addr} {x : Addr} {o : HO} (n : ∀ b ∈ L, H b = none) (h : H x = some o) : ∀ b ∈ L, b ≠ x := fun b hb z => by
  have := n b hb
  rw [z, h] at this
  cases this
theorem new_nl {H : Hp} {L L2 : List Addr} (n : ∀ b ∈ L, H b = none) (t : ∀ b ∈ L2, H b ≠ none) : ∀ b ∈ L, b ∉ L2 := fun b hb z => t b z (n b hb)
theorem nl_symm {L L2 : List Addr} (h : ∀ b ∈ L, b ∉ L2) : ∀ b ∈ L2, b ∉ L := fun b hb z => h b z hb
theorem none_of_same {H H' : Hp} {x : Addr} (e : Same H H') (n : H' x = none) : H x = none := by
  cases q : H x with
  | none => rfl
  | some o =>
    rw [e x o q] at n
    cases n
section
variable {M : List Addr} {H0 G0 G H H' : Hp} {O L : List Addr} {p m : Addr} {o : HO}
theorem Sep.h0 (S : Sep M H0 G0 G H O) {b : Addr} (hb : b ∈ O) (hM : b ∉ M) : H0 b = none := (S.ow b hb).2.2.elim (fun z => (hM z).elim) id
theorem g_nl {a : Addr} {o : HO} (h : G a = some o) (S : Sep M H0 G0 G H O) (hL : ∀ b ∈ L, b ∈ O) : ∀ b ∈ L, b ≠ a := fun b hb => (g_ne h S (hL b hb)).symm
theorem b_nl {a : Addr} {o : HO} (h : (hideL M H0) a = some o) (S : Sep M H0 G0 G H O) (hL : ∀ b ∈ L, b ∈ O) : ∀ b ∈ L, b ≠ a := fun b hb => (b_ne h S (hL b hb)).symm
/-- a whole tree that is to stay as it is -/
theorem Sep.freezeL (S : Sep M H0 G0 G H O) {O' : List Addr} (hL : ∀ b ∈ L, b ∈ O) (h0 : ∀ b ∈ L, H0 b = none) (hO : ∀ b ∈ O', b ∈ O ∧ b ∉ L) : ∃ G', Same G G' ∧ Keeps L H G' ∧ Sep M H0 G0 G' H O' := by
  have gn : ∀ b ∈ L, G b = none := fun b hb => (S.ow b (hL b hb)).1
  refine ⟨fun b => if b ∈ L then H b else G b, fun b u q => ?_, fun b hb u q => ?_, S.base, S.pm, fun b u q => ?_, fun b u q => ?_, fun b hb gb => ?_, fun a ha => ?_⟩
  · have n : b ∉ L := fun z => by
      rw [gn b z] at q
      cases q
    show (if b ∈ L then H b else G b) = _
    rw [if_neg n]
    exact q
  · show (if b ∈ L then H b else G b) = _
    rw [if_pos hb]
    exact q
  · by_cases z : b ∈ L
    · exact (if_pos z).symm.trans q
    · exact S.sG b u ((if_neg z).symm.trans q)
  · have z : b ∉ L := fun z => by
      have := S.g0 b u q
      rw [gn b z] at this
      cases this
    show (if b ∈ L then H b else G b) = _
    rw [if_neg z]
    exact S.g0 b u q
  · have z : b ∉ L := fun z => hb (h0 b z)
    show (if b ∈ L then H b else G b) = _
    rw [if_neg z]
    exact S.gn b hb gb
  · obtain ⟨h1, h2⟩ := hO a ha
    refine ⟨?_, (S.ow a h1).2⟩
    show (if a ∈ L then H a else G a) = _
    rw [if_neg h2]
    exact (S.ow a h1).1
/-- a callee hands over a list of lists of its own making -/
theorem Sep.steptree (S : Sep M H0 G0 G H O) {G' : Hp} (e : Same H H') (eG : Same G G') (sG : Same G' H') (hn : ∀ b, H b ≠ none → G b = none → G' b = none) (L : List Addr) (hL : ∀ b ∈ L, H b = none ∧ G' b = none ∧ H' b ≠ none) : Sep M H0 G0 G' H' (L ++ O) := by
  have S2 := S.step e eG sG hn
  refine ⟨S2.base, S2.pm, S2.sG, S2.g0, S2.gn, all_app (fun b hb => ⟨(hL b hb).2.1, (hL b hb).2.2, .inr (S.free (hL b hb).1)⟩) S2.ow⟩
end
theorem Rp.list_of {α : Type} {g : α → PyData} {H : Hp} {a : Addr} {vs : List V} {xs : List α} (h : H a = some (.lst vs)) (r : RpAll H vs (xs.map g)) : Rp H (.ref a) (encL g xs) := .lst h r
/-! ### repr of data -/
mutual
def nodes : PyData → Nat
  | .list xs => 1 + nodesAll xs
  | .tuple xs => 1 + nodesAll xs
  | _ => 1
def nodesAll : List PyData → Nat
  | [] => 0
  | x :: xs => nodes x + nodesAll xs
end
mutual
def smallD : PyData → Bool
  | .none => true
  | .bool _ => true
  | .int i => decide (i.natAbs < 10 ^ 19)
  | .str x => decide ((reprText x).length ≤ 20)
  | .list xs => smallAll xs
  | .tuple xs => smallAll xs
  | _ => false
def smallAll : List PyData → Bool
  | [] => true
  | x :: xs => smallD x && smallAll xs
end
theorem piled_list (ts : List Str) : (listText ts).length ≤ piled ts + 2 := by
  cases ts with
  | nil => exact Nat.le_refl 2
  | cons t r =>
    have e : (listText (t :: r)).length = (textFrom 1 ("[" ++ ("" : String) ++ t) r).length + 1 := by
      show (textFrom 0 "[" (t :: r) ++ "]").length = _
      rw [strLen_append]
      rfl
    rw [e, textFrom_length_pos r 1 _ (by decide), piled_cons, strLen_append, strLen_append]
    have h1 : (("[" : String) : Str).length = 1 := rfl
    have h2 : (("" : String) : Str).length = 0 := rfl
    omega
theorem piled_tup (ts : List Str) : (tupleText ts).length ≤ piled ts + 3 := by
  unfold tupleText
  rw [strLen_append, strLen_append]
  have h1 : (("(" : String) : Str).length = 1 := rfl
  have h2 : (((if ts.length == 1 then ",)" else ")" : String) : Str)).length ≤ 2 := by split <;> decide
  by_cases h : ts = []
  · subst h
    exact Nat.le_of_lt (by decide)
  · have := join_length_add ts h
    omega
mutual
theorem small_shown : ∀ d : PyData, smallD d = true → d.shown.length + 4 ≤ 26 * nodes d ∧ d.showable = true ∧ d.hasDict = false
  | .none, _ => ⟨by simp only [PyData.shown, nodes]; decide, by simp [PyData.showable], by simp [PyData.hasDict]⟩
  | .bool b, _ => ⟨by cases b <;> simp only [PyData.shown, nodes] <;> decide, by simp [PyData.showable], by simp [PyData.hasDict]⟩
  | .int i, h => by
    have h : i.natAbs < 10 ^ 19 := by simpa [smallD] using h
    refine ⟨?_, ?_, by simp [PyData.hasDict]⟩
    · have := int_text_length_le10 (k := 19) (by decide) h
      simp only [PyData.shown, nodes]
      rw [PySem.ofString_length]
      omega
    · simp only [PyData.showable, decide_eq_true_eq]
      have : i.natAbs < 2 ^ 64 := by omega
      rcases Nat.eq_zero_or_pos i.natAbs with z | z
      · rw [z]
        decide
      · have := (Nat.log2_lt (by omega)).mpr this
        omega
  | .str x, h => by
    have h : (reprText x).length ≤ 20 := by simpa [smallD] using h
    refine ⟨by simp only [PyData.shown, nodes]; omega, by simp [PyData.showable], by simp [PyData.hasDict]⟩
  | .list xs, h => by
    obtain ⟨h1, h2, h3⟩ := small_shownAll xs (by simpa [smallD] using h)
    refine ⟨?_, by simpa [PyData.showable] using h2, by simpa [PyData.hasDict] using h3⟩
    have := piled_list (PyData.shownAll xs)
    simp only [PyData.shown, nodes]
    omega
  | .tuple xs, h => by
    obtain ⟨h1, h2, h3⟩ := small_shownAll xs (by simpa [smallD] using h)
    refine ⟨?_, by simpa [PyData.showable] using h2, by simpa [PyData.hasDict] using h3⟩
    have := piled_tup (PyData.shownAll xs)
    simp only [PyData.shown, nodes]
    omega
  | .dict kvs, h => by simp [smallD] at h
theorem small_shownAll : ∀ ds : List PyData, smallAll ds = true → piled (PyData.shownAll ds) ≤ 26 * nodesAll ds ∧ PyData.showableAll ds = true ∧ PyData.hasDictAll ds = false
  | [], _ => ⟨by simp [PyData.shownAll, nodesAll, piled], by simp [PyData.showableAll], by simp [PyData.hasDictAll]⟩
  | d :: ds, h => by
    have h : smallD d = true ∧ smallAll ds = true := by simpa [smallAll] using h
    obtain ⟨a1, a2, a3⟩ := small_shown d h.1
    obtain ⟨b1, b2, b3⟩ := small_shownAll ds h.2
    refine ⟨?_, by simp [PyData.showableAll, a2, b2], by simp [PyData.hasDictAll, a3, b3]⟩
    simp only [PyData.shownAll, nodesAll, piled_cons]
    omega
end
/-- data that repr may show -/
def ShowOk (d : PyData) : Prop := smallD d = true ∧ nodes d ≤ 600000 ∧ d.depth ≤ 60
instance (d : PyData) : Decidable (ShowOk d) := by unfold ShowOk; infer_instance
def rRepr : List V → Hp → VK → Prop := fun xs H Q => ∃ (a : Addr) (d : PyData), xs = [.ref a] ∧ Rp H (.ref a) d ∧ ShowOk d ∧ Q (.str d.shown) H
theorem call_reprD {X : Cx} (hg : X.A.guards = some []) (hu : X.A.units + 64 < cLine) : CallR X (.builtin "repr") rRepr := by
  intro pins s σ H xs us Q I r h
  obtain ⟨a, d, rfl, rp, ⟨ok, nd, dp⟩, q⟩ := h
  obtain ⟨h1, h2, h3⟩ := small_shown d ok
  cases r with
  | cons ra rn =>
    cases rn
    cases ra
    obtain ⟨as, reads⟩ := Dp.reads I d _ _ rp.dp rfl
    refine repr_of_reads' reads h2 (PyData.noDict_hsm h3) hg (by omega) (fun _ _ e => e) (fun h' u tk k => ⟨.str d.shown, H, I.kept k, ⟨u, rfl⟩, q⟩) ?_
    show d.shown.length ≤ 2 ^ 24
    omega
/-- small data: nodes, depth -/
def Sm (n k : Nat) (d : PyData) : Prop := smallD d = true ∧ nodes d ≤ n ∧ d.depth ≤ k
theorem Sm.imp {n k n' k' : Nat} {d : PyData} (h : Sm n k d) (a : n ≤ n') (b : k ≤ k') : Sm n' k' d := ⟨h.1, Nat.le_trans h.2.1 a, Nat.le_trans h.2.2 b⟩
theorem Sm.show {n k : Nat} {d : PyData} (h : Sm n k d) (a : n ≤ 600000 := by decide) (b : k ≤ 60 := by decide) : ShowOk d := h.imp a b
theorem sm_non : Sm 1 0 .none := ⟨by simp [smallD], by simp [nodes], by simp [PyData.depth]⟩
theorem sm_bool (b : Bool) : Sm 1 0 (.bool b) := ⟨by simp [smallD], by simp [nodes], by simp [PyData.depth]⟩
theorem sm_int {i : Int} (h : -10000000000000000000 < i ∧ i < 10000000000000000000) : Sm 1 0 (.int i) := ⟨by simp only [smallD, decide_eq_true_eq]; omega, by simp [nodes], by simp [PyData.depth]⟩
theorem sm_all {α : Type} {f : α → PyData} {n k : Nat} : ∀ {xs : List α}, (∀ x ∈ xs, Sm n k (f x)) → smallAll (xs.map f) = true ∧ nodesAll (xs.map f) ≤ xs.length * n ∧ PyData.depthAll (xs.map f) ≤ k
  | [], _ => ⟨by simp [smallAll], by simp [nodesAll], by simp [PyData.depthAll]⟩
  | x :: xs, h => by
    obtain ⟨a1, a2, a3⟩ := h x List.mem_cons_self
    obtain ⟨b1, b2, b3⟩ := sm_all fun y hy => h y (List.mem_cons_of_mem _ hy)
    refine ⟨by simp [smallAll, a1, b1], ?_, ?_⟩
    · simp only [List.map_cons, nodesAll, List.length_cons, Nat.succ_mul]
      omega
    · simp only [List.map_cons, PyData.depthAll]
      omega
theorem sm_L {α : Type} {f : α → PyData} {n k m : Nat} {xs : List α} (h : ∀ x ∈ xs, Sm n k (f x)) (hm : xs.length ≤ m) : Sm (1 + m * n) (k + 1) (encL f xs) := by
  obtain ⟨a1, a2, a3⟩ := sm_all h
  refine ⟨by simp [encL, smallD, a1], ?_, ?_⟩
  · have := Nat.mul_le_mul_right n hm
    simp only [encL, nodes]
    omega
  · simp only [encL, PyData.depth]
    omega
theorem sm_ints {xs : List Int} {m : Nat} (h : ∀ x ∈ xs, -10000000000000000000 < x ∧ x < 10000000000000000000) (hm : xs.length ≤ m) : Sm (1 + m * 1) 1 (encL PyData.int xs) := sm_L (fun x hx => sm_int (h x hx)) hm
theorem sm_T2 {α β : Type} {f : α → PyData} {g : β → PyData} {n k m j : Nat} {p : α × β} (h1 : Sm n k (f p.1)) (h2 : Sm m j (g p.2)) : Sm (1 + n + m) (max k j + 1) (encT2 f g p) := by
  obtain ⟨a1, a2, a3⟩ := h1
  obtain ⟨b1, b2, b3⟩ := h2
  refine ⟨by simp [encT2, smallD, smallAll, a1, b1], ?_, ?_⟩
  · simp only [encT2, nodes, nodesAll]
    omega
  · simp only [encT2, PyData.depth, PyData.depthAll]
    omega
theorem sm_T3 {α β γ : Type} {f : α → PyData} {g : β → PyData} {h : γ → PyData} {n k m j l i : Nat} {p : α × β × γ} (h1 : Sm n k (f p.1)) (h2 : Sm m j (g p.2.1)) (h3 : Sm l i (h p.2.2)) : Sm (1 + n + m + l) (max k (max j i) + 1) (encT3 f g h p) := by
  obtain ⟨a1, a2, a3⟩ := h1
  obtain ⟨b1, b2, b3⟩ := h2
  obtain ⟨c1, c2, c3⟩ := h3
  refine ⟨by simp [encT3, smallD, smallAll, a1, b1, c1], ?_, ?_⟩
  · simp only [encT3, nodes, nodesAll]
    omega
  · simp only [encT3, PyData.depth, PyData.depthAll]
    omega
end Vx
namespace Vx
open PySem PySem.Spec PyProof.Rows L2
theorem new_ne2 {H : Hp} {L : List Addr} {x : Addr} (n : ∀ b ∈ L, H b = none) (h : H x ≠ none) : ∀ b ∈ L, b ≠ x := fun b hb z => h (z ▸ n b hb)
theorem upd_tree {α : Type} {f : α → Dt} {G H H' : Hp} {L L1 : List Addr} {vs : List V} {xs : List α} {k : Int} {v : V} {m : Addr} {y : α} (up : ∀ H' y, (∀ b ∈ L, b ∉ L1 → ∀ o, H b = some o → H' b = some o) → Ow G H' L1 v (f y) → OwAll G H' L vs ((setL xs k y).map f)) (x : SameX m H H') (hm : m ∈ L1) (w : Ow G H' L1 v (f y)) :
    OwAll G H' L vs ((setL xs k y).map f) := up H' y (fun c _ n o q => x c o q (fun z => n (z ▸ hm))) w
theorem Ow.toFrz {α : Type} {f : α → PyData} {G H : Hp} {L : List Addr} {v : V} {x : α} (w : Ow G H L v (oF f x)) : L = [] ∧ Rp G v (f x) := by
  unfold oF at w
  cases w with
  | frz r => exact ⟨rfl, r⟩
section
variable {α : Type} {f : α → Dt} {G H : Hp} {L : List Addr} {vs : List V} {xs : List α}
theorem OwAll.pin {i : Nat} {v : V} {x : α} (w : OwAll G H L vs (xs.map f)) (h : vs[i]? = some v) (hx : xs[i]? = some x) : ∃ L1, Ow G H L1 v (f x) ∧ ∀ b ∈ L1, b ∈ L := by
  obtain ⟨y, L1, h1, h2, h3⟩ := OwAll.turn w h
  rw [hx] at h1
  cases h1
  exact ⟨L1, h2, h3⟩
theorem OwAll.pinInts {i : Nat} {b : Addr} {xs : List (List Int)} {x : List Int} (w : OwAll G H L vs (xs.map (oL oI))) (h : vs[i]? = some (.ref b)) (hx : xs[i]? = some x) : H b = some (.lst (x.map V.int)) ∧ b ∈ L := by
  obtain ⟨L1, w1, h1⟩ := OwAll.pin w h hx
  obtain ⟨c, e, rfl, h2⟩ := Ow.toInts w1
  cases e
  exact ⟨h2, h1 _ List.mem_cons_self⟩
end
end Vx
namespace Vx
open PySem PySem.Spec PyProof.Rows L2
theorem lookup_relab {c : Str → Bool} {y : Str} : ∀ l : List (Str × NameKind), (l.lookup y = some .cell ∨ l.lookup y = some .free) →
    ((l.map fun (n, k) => if (k == .free && c n) then (n, NameKind.cell) else (n, k)).lookup y = some .cell ∨ (l.map fun (n, k) => if (k == .free && c n) then (n, NameKind.cell) else (n, k)).lookup y = some .free)
  | [], h => by simp at h
  | (n, k) :: r, h => by
    rw [List.map_cons]
    dsimp only
    by_cases e : y == n
    · have hk : k = .cell ∨ k = .free := by
        rw [List.lookup_cons, e] at h
        simpa using h
      by_cases q : (k == .free && c n) = true
      · left
        rw [if_pos q, List.lookup_cons, e]
      · rw [if_neg q, List.lookup_cons, e]
        simpa using hk
    · have e : (y == n) = false := by simpa using e
      rw [List.lookup_cons, e] at h
      have ih := lookup_relab (c := c) r h
      by_cases q : (k == .free && c n) = true
      · rw [if_pos q, List.lookup_cons, e]
        exact ih
      · rw [if_neg q, List.lookup_cons, e]
        exact ih
theorem blk_relabel {N : List Str} {sc scope : Scope} {env : Env} {own : List (Str × Nat)} (h : BlkOk N sc scope own) : BlkOk N (relabel sc env) scope own := by
  refine ⟨h.kind, h.uniq, h.ix, fun y hy e => ?_, h.own⟩
  have z := lookup_relab (c := fun n => env.scope.kind == .function && env.kindOf n == some .cell) (y := y.1) sc.names (h.free y hy e)
  unfold relabel
  simpa only [Bool.and_assoc] using z
end Vx
namespace Vx
open PySem PySem.Spec PyProof.Rows L2
theorem FnG.low {P : Program} {w : World} {K : PySem.W.Frag} {mg : Str → Option Value} {base : Heap} {cx : CXT} {j k : Nat} {f : Addr} {fd : FuncData} {ps : List Str} {sp : Sp} (F : FnG P w K mg base cx j f fd ps sp) (h : j ≤ k) : FnG P w K mg base cx k f fd ps sp := ⟨F.len, fun A o s H a us vs Q E r => F.run A o s H a us vs Q E (r.low h)⟩
/-! ### a local name that holds one of several defs -/
structure HeldX (P : Program) (w : World) (K : PySem.W.Frag) (mg : Str → Option Value) (base : Heap) (k n : Nat) (f : Addr) (sp : Sp) : Prop where
  ex : ∃ (fd : FuncData) (ps : List Str), FnG P w K mg base (L2.CX P w) k f fd ps sp ∧ PySem.W.keepIn K (.ref f) = true ∧ Bnd K fd ps n [] (fun vs _ => vs)
theorem HeldX.of {P : Program} {w : World} {K : PySem.W.Frag} {mg : Str → Option Value} {base : Heap} {j k n : Nat} {x : Str} {sp : Sp} {pats : List Pat} {a : Addr} (c : CalX P w K mg base j x sp pats) (hx : mg x = some (.ref a)) (hp : (n, [], fun vs _ => vs) ∈ pats) (hj : j ≤ k) : HeldX P w K mg base k n a sp := by
  obtain ⟨f, fd, ps, F, hm, kp, b⟩ := c.ex
  rw [hx] at hm
  injection hm with hm
  injection hm with hm
  subst hm
  exact ⟨fd, ps, F.low hj, kp, b _ hp⟩
def tCallF (i n : Nat) (L : List (Addr × Sp)) (W : WX) (t : TA) : TE := fun σ H Q => ∃ f sp, σ[i]? = some (some (.ref f)) ∧ (f, sp) ∈ L ∧ t σ H fun vs H1 => vs.length = n ∧ ([] : List V).length = 0 ∧ sp vs H1 Q (WE W σ)
theorem vx_callF {X : Cx} {k j i n : Nat} {x : Str} {p pos : Pos} {e : Expr} {es : List Expr} {t : TA} {W : WX} (L : List (Addr × Sp)) (A : ∀ q ∈ L, HeldX X.prog X.w X.K X.mg X.base k n q.1 q.2) (hr : RoomG j X.A) (hk : k ≤ j) (tkW : Takes X W) (hN : X.N[i]? = some x) (hv : Vis X.env.scope x) (ha : PA X (e :: es) t)
    (hdb : (x == ("__debug__" : Str)) = false := by decide) (hcd : (x == ("__classdict__" : Str)) = false := by decide) (he : starEach (e :: es) X.env = (false, eval e X.env) :: starEach es X.env := by rfl) (hpl : (backTo pos (starEach es X.env)).any (·.1) = false := by rfl) :
    PE X (.Call (.Name x p) (e :: es) [] pos) (tCallF i n L W t) := by
  constructor
  intro pins s σ H Q I h
  obtain ⟨f, sp, slot, mem, rest⟩ := h
  obtain ⟨fd, ps, F, kp, b⟩ := (A _ mem).ex
  refine wpAny_Call_Name_kw (thn ((pe_var (pos := p) hN hv hdb hcd).run pins s σ H (fun v H1 => v = .ref f ∧ H1 = H) I ⟨.ref f, slot, rfl, rfl⟩) ?_)
  rintro u s1 ⟨v, H1, I1, r1, rfl, rfl⟩
  cases r1
  refine PySem.W.callWith_K (h₀ := X.base) I.ok.mod.kin kp (thn (ha.run pos pins s1 σ _ _ I1 rest) ?_) he hpl
  rintro us s2 ⟨vs, H2, I2, r, l1, l2, q⟩
  exact ⟨I2.kIn, run_X (us := us) (ws := []) (zs := []) F (hr.low hk) b tkW I2 r .nil l1 l2 q⟩
/-! ### the least of a list, the place of an item -/
def minL : List Int → Int
  | [] => 0
  | [x] => x
  | x :: y :: r => if x ≤ minL (y :: r) then x else minL (y :: r)
theorem minL_spec : ∀ (xs : List Int), xs ≠ [] → minL xs ∈ xs ∧ ∀ y ∈ xs, minL xs ≤ y
  | [], h => absurd rfl h
  | [x], _ => ⟨List.mem_cons_self, fun y hy => by rw [List.mem_singleton.mp hy]; exact Int.le_refl x⟩
  | x :: y :: r, _ => by
    obtain ⟨h1, h2⟩ := minL_spec (y :: r) (fun z => nomatch z)
    unfold minL
    split
    · refine ⟨List.mem_cons_self, fun z hz => ?_⟩
      rcases List.mem_cons.mp hz with rfl | hz
      · exact Int.le_refl _
      · have := h2 z hz
        omega
    · refine ⟨List.mem_cons_of_mem _ h1, fun z hz => ?_⟩
      rcases List.mem_cons.mp hz with rfl | hz
      · omega
      · exact h2 z hz
def maxL (xs : List Int) : Int := -(minL (xs.map fun x => -x))
theorem maxL_spec (xs : List Int) (h : xs ≠ []) : maxL xs ∈ xs ∧ ∀ y ∈ xs, y ≤ maxL xs := by
  obtain ⟨h1, h2⟩ := minL_spec (xs.map fun x => -x) (by simpa using h)
  obtain ⟨z, hz, e⟩ := List.mem_map.mp h1
  unfold maxL
  refine ⟨by rw [← e, Int.neg_neg]; exact hz, fun y hy => ?_⟩
  have := h2 _ (List.mem_map_of_mem hy)
  omega
section
variable {X : Cx} {K : PySem.W.Frag}
def rMinL (K : PySem.W.Frag) : List V → Hp → VK → Prop := fun vs H Q => ∃ (a : Addr) (ns : List Int), vs = [V.ref a] ∧ SqL K H a (ns.map V.int) ∧ ns ≠ [] ∧ Q (.int (minL ns)) H
def rMaxL (K : PySem.W.Frag) : List V → Hp → VK → Prop := fun vs H Q => ∃ (a : Addr) (ns : List Int), vs = [V.ref a] ∧ SqL K H a (ns.map V.int) ∧ ns ≠ [] ∧ Q (.int (maxL ns)) H
theorem cr_minL (hc : X.calm = true) (hK : X.K = K := by rfl) : CallR X (.builtin "min") (rMinL K) := by
  subst hK
  intro pins s σ H vs us Q I r h
  obtain ⟨a, ns, rfl, hs, hn, q⟩ := h
  refine cr_min hc pins s σ H _ us Q I r ⟨a, ns, rfl, hs, List.length_pos_iff.mpr hn, fun m hm hle => ?_⟩
  obtain ⟨h1, h2⟩ := minL_spec ns hn
  have e : m = minL ns := Int.le_antisymm (by have := hle _ h1; omega) (h2 m hm)
  rw [e]
  exact q
theorem cr_maxL (hc : X.calm = true) (hK : X.K = K := by rfl) : CallR X (.builtin "max") (rMaxL K) := by
  subst hK
  intro pins s σ H vs us Q I r h
  obtain ⟨a, ns, rfl, hs, hn, q⟩ := h
  refine cr_max hc pins s σ H _ us Q I r ⟨a, ns, rfl, hs, List.length_pos_iff.mpr hn, fun m hm hle => ?_⟩
  obtain ⟨h1, h2⟩ := maxL_spec ns hn
  have e : m = maxL ns := Int.le_antisymm (h2 m hm) (by have := hle _ h1; omega)
  rw [e]
  exact q
end
end Vx
namespace Vx
open PySem PySem.Spec PyProof.Rows L2
def idxL (ns : List Int) (i : Int) : Int := (ns.idxOf i : Nat)
def rIndexI (K : PySem.W.Frag) : V → List V → Hp → VK → Prop := fun x xs H Q => ∃ (a : Addr) (ns : List Int) (i : Int), x = V.ref a ∧ xs = [.int i] ∧ SqL K H a (ns.map V.int) ∧ i ∈ ns ∧ Q (.int (idxL ns i)) H
theorem mt_indexI {X : Cx} {K : PySem.W.Frag} (hK : X.K = K := by rfl) : MtR X "list.index" (rIndexI K) := by
  subst hK
  intro pins s σ H x xs v us Q I rx rxs h
  obtain ⟨a, ns, i, rfl, rfl, hs, hi, q⟩ := h
  have hl := List.idxOf_lt_length_of_mem hi
  refine mt_index pins s σ H _ _ v us Q I rx rxs ⟨a, _, .int i, ns.idxOf i, .int i, rfl, rfl, hs, rfl, flat_ints ns, ?_, by simp [eqV], fun m z hm hz => ?_, q⟩
  · rw [List.getElem?_map, List.getElem?_eq_getElem hl, List.getElem_idxOf hl] <;> rfl
  · rw [List.getElem?_map] at hz
    cases e : ns[m]? with
    | none => rw [e] at hz; cases hz
    | some y =>
      rw [e] at hz
      cases hz
      have hml : m < ns.length := by omega
      have hy : ns[m] = y := by
        rw [List.getElem?_eq_getElem hml] at e
        exact Option.some.inj e
      have := List.not_of_lt_findIdx (p := (· == i)) (xs := ns) (i := m) hm
      simp only [beq_iff_eq, hy] at this
      simp [eqV, this]
theorem cW_aftgo {σ ρ τ : Type} {s : σ} {kr : ρ → Rx τ} {k : σ → Rx τ} {K : τ → Prop} {E : Nat → Prop} (h : cW ((Lp.go s : Lp σ ρ).aft kr k) K E) : cW (k s) K E := h
end Vx
namespace Vx
open PySem PySem.Spec PyProof.Rows L2
/-! ### a truth value or a number beside a number -/
def Bi.num : Bi → Int
  | .b x => if x then 1 else 0
  | .n i => i
def Bi.dat : Bi → PyData
  | .b x => .bool x
  | .n i => .int i
section
variable {X : Cx}
def rEqBI : R2 := fun x y H Q => ∃ (b : Bi) (i : Int), x = biV b ∧ y = .int i ∧ Q (.bl (decide (b.num = i))) H
def rNeBI : R2 := fun x y H Q => ∃ (b : Bi) (i : Int), x = biV b ∧ y = .int i ∧ Q (.bl (!decide (b.num = i))) H
theorem eqv_bi (b : Bi) (i : Int) : PyData.eqv b.dat (.int i) = decide (b.num = i) := by
  cases b with
  | b x => cases x <;> (rw [Bool.eq_iff_iff]; simp [Bi.dat, Bi.num, PyData.eqv])
  | n j =>
    rw [Bool.eq_iff_iff]
    simp only [Bi.dat, Bi.num, PyData.eqv, beq_iff_eq]
    exact decide_eq_true_iff.symm
theorem dp_bi {K : PySem.W.Frag} {H : Hp} : ∀ b : Bi, Dp K H (biV b) b.dat
  | .b x => .bl x
  | .n i => .int i
theorem shaped_bi : ∀ b : Bi, SeqAt.shaped b.dat = true
  | .b x => by unfold SeqAt.shaped; simp [Bi.dat, PyData.canLay0, PyData.depth]
  | .n i => by unfold SeqAt.shaped; simp [Bi.dat, PyData.canLay0, PyData.depth]
theorem op_eqBI (hu : X.A.units + 64 < cLine) : OpR X (compareOp .Eq) rEqBI := by
  intro pins s σ H x y v u Q I rx ry h
  obtain ⟨b, i, rfl, rfl, q⟩ := h
  exact op_eqD hu pins s σ H _ _ v u Q I rx ry ⟨b.dat, .int i, dp_bi b, .int i, shaped_bi b, shaped_bi (.n i), by rw [eqv_bi]; exact q⟩
theorem op_neBI (hu : X.A.units + 64 < cLine) : OpR X (compareOp .NotEq) rNeBI := by
  intro pins s σ H x y v u Q I rx ry h
  obtain ⟨b, i, rfl, rfl, q⟩ := h
  exact op_neD hu pins s σ H _ _ v u Q I rx ry ⟨b.dat, .int i, dp_bi b, .int i, shaped_bi b, shaped_bi (.n i), by rw [eqv_bi]; exact q⟩
end
end Vx
namespace Vx
open PySem PySem.Spec PyProof.Rows L2
/-! ### == of own objects by an own __eq__ that never raises -/
section
variable {X : Cx} {k j : Nat}
def rEqX (C : Addr) (n mm : Nat) (sp : Sp) (g : List V → List V → List V) : R2 := fun x y H Q => ∃ (a b dx dy : Addr) (fs gs : List (Str × V)), x = .ref a ∧ y = .ref b ∧ H a = some (.ins C dx fs) ∧ H b = some (.ins C dy gs) ∧ 2 = n ∧ 0 = mm ∧ sp (g [x, y] []) H (fun v H' => (∃ r, v = .bl r) ∧ Q v H') E0
theorem op_eqX {C : Addr} {sp : Sp} {pats : List Pat} (c : MetX X.prog X.w X.K X.mg X.base k C "__eq__" sp pats) (pt : Pat) (hpt : pt ∈ pats) (hr : RoomG j X.A) (hk : k ≤ j) (hks : pt.2.1 = [] := by rfl) : OpR X (compareOp .Eq) (rEqX C pt.1 pt.2.1.length sp pt.2.2) := by
  intro pins s σ H x y v u Q I rx ry hq
  obtain ⟨a, b, dx, dy, fs, gs, rfl, rfl, ha, hb', l1, l2, q⟩ := hq
  obtain ⟨f, fd, ps, hc, hm, F, bb⟩ := c.ex
  cases rx
  cases ry
  obtain ⟨mA, J, _⟩ := ins_get I.hok ha
  obtain ⟨mB, J', _⟩ := ins_get I.hok hb'
  obtain ⟨od, J, _⟩ := J.look
  obtain ⟨od', J', _⟩ := J'.look
  obtain ⟨m, hF⟩ := I.fr
  have hz := run_X (us := [.ref a, .ref b]) (vs := [.ref a, .ref b]) (ws := []) (zs := []) F (hr.low hk) (bb pt hpt) (takes0 (X := X)) I (.cons rfl (.cons rfl .nil)) .nil l1 l2 q
  rw [hks] at hz
  show wpAny (model X.prog X.w) X.A (richCompare .Eq (.ref a) (.ref b)) (EP X pins σ Q) X.xe s
  refine PySem.W.cmp_K (op := .Eq) (tb := .ref C) (hr.low hk).toRoom.units0 hF I.ok.mod.kin J J'.type (by simp [PySem.W.notFirst]) hm.at_ hm.fn ?_
  refine wpAny_mono hz (fun r s' z => ?_) fun _ _ e => e
  obtain ⟨w, H', I', rw', ⟨⟨q1, rfl⟩, q2⟩⟩ := z
  cases rw'
  exact ⟨V.bl q1, H', I', rfl, q2⟩
end
end Vx
namespace Vx
open PySem PySem.Spec PyProof.Rows L2
/-! ### isinstance of the exception in hand: a built-in class, a tuple of classes -/
theorem kit_blt {K : PySem.W.Frag} {D : Addr} {T : String} {b : Bool} (h : PySem.W.subIn K (.ref D) (.type T) = some b) (h0 : PySem.W.kitMeta T = true := by decide +kernel) : PySem.W.kitOne K (.ref D) (.type T) = some b := by
  unfold PySem.W.kitOne
  rw [if_neg (show ¬ (Value.ref D == Value.type T) = true from fun z => nomatch (show false = true from z))]
  show (if PySem.W.kitMeta T = true then PySem.W.subIn K (.ref D) (.type T) else none) = some b
  rw [if_pos h0, h]
def rIsXB (K : PySem.W.Frag) (a : Addr) (cls : Value) (d : Option Addr) : List V → Hp → VK → Prop := fun xs H Q => ∃ (D : Addr) (T : String) (b : Bool), cls = .ref D ∧ d = none ∧ ExcC K D ∧ xs = [.ref a, .ty T] ∧ PySem.W.kitOne K (.ref D) (.type T) = some b ∧ Q (.bl b) H
theorem call_isXB {X : Cx} {K : PySem.W.Frag} {a : Addr} {cls : Value} {d : Option Addr} {oe : Obj} {pn : List (Addr × Obj)} (hz : Zc cls d oe) (hf : ∃ vs, oe.data = .fields vs) (hK : X.K = K := by rfl) : CallR (X.suite a ((a, oe) :: pn)) (.builtin "isinstance") (rIsXB K a cls d) := by
  subst hK
  intro pins s σ H xs us Q I r h
  obtain ⟨D, T, b, rfl, rfl, c, rfl, e, q⟩ := h
  exact call_isE c hz hf pins s σ H _ us Q I r ⟨_, _, b, rfl, fun u z => z, e, q⟩
def rIsXT (K : PySem.W.Frag) (a : Addr) (cls : Value) (d : Option Addr) : List V → Hp → VK → Prop := fun xs H Q => ∃ (D tp : Addr) (cs : List V) (ws : List Value) (b : Bool), cls = .ref D ∧ d = none ∧ ExcC K D ∧ xs = [.ref a, .ref tp] ∧ H tp = some (.tup cs) ∧ Paired ClsV cs ws ∧ PySem.W.kitAny K (.ref D) ws = some b ∧ Q (.bl b) H
theorem call_isXT {X : Cx} {K : PySem.W.Frag} {a : Addr} {cls : Value} {d : Option Addr} {oe : Obj} {pn : List (Addr × Obj)} (hz : Zc cls d oe) (hf : ∃ vs, oe.data = .fields vs) (hK : X.K = K := by rfl) : CallR (X.suite a ((a, oe) :: pn)) (.builtin "isinstance") (rIsXT K a cls d) := by
  subst hK
  intro pins s σ H xs us Q I r h
  obtain ⟨D, tp, cs, ws, b, rfl, rfl, C, rfl, hT, k, e, q⟩ := h
  cases r with
  | cons rx rr =>
    cases rr with
    | cons rt rr =>
      cases rr
      cases rx
      cases rt
      obtain ⟨hget, _⟩ := I.pin (a, oe) (List.mem_append.mpr (.inl List.mem_cons_self))
      obtain ⟨vs, hv⟩ := hf
      have J : PySem.W.InstAt s.heap a oe D none := by
        obtain ⟨oc, od, oda, osl⟩ := oe
        obtain ⟨h1, h2⟩ := hz
        dsimp only at h1 h2 hv
        subst h1 h2 hv
        exact ⟨hget, rfl, rfl, trivial⟩
      obtain ⟨_, its, rv, o, h1, h2, n, h3⟩ := (show ObjOk X.prog X.w H s.heap tp (.tup cs) from I.hok tp _ hT)
      have e3 := ClsV.all k rv
      subst e3
      obtain ⟨oc, od, dt, sl⟩ := o
      simp only at h2 h3
      subst h2 h3
      exact PySem.W.kia_tup (PySem.W.handS_kitx_exc C.hg C.hk C.hs C.hd C.ha C.hn C.ht C.hm) I.kIn J h1 e (fun z => nomatch z) fun tk => ⟨.bl b, H, I.kept (t' := tk) fun _ _ z => z, rfl, q⟩
theorem kit_self {K : PySem.W.Frag} {t : Value} (h : (t == t) = true := by simp) : PySem.W.kitOne K t t = some true := by
  unfold PySem.W.kitOne
  rw [if_pos h]
/-- what a class must say, so that isinstance asks its objects rightly -/
structure IsiC (K : PySem.W.Frag) (C : Addr) : Prop where
  ha : PySem.W.findIn K (.ref C) "__class__" = some (some (.builtin "object.__class__"))
  hn : PySem.W.specialIn K (.builtin "object.__class__") "__get__" = some (some (.builtin "getset_descriptor.__get__"))
  ht : PySem.W.takesIn K (.builtin "object.__class__") = some true
  hm : PySem.W.mroIn K C (.type "object") = some true
theorem tyX_ins {K : PySem.W.Frag} {H : Hp} {a C dx : Addr} {fs : List (Str × V)} (e : H a = some (.ins C dx fs)) (cl : Cls K C) (c : IsiC K C) : TyX K H (.ref a) (.ref C) := .base (.ins e cl c.ha c.hn c.ht c.hm)
end Vx
namespace Vx
open PySem PySem.Spec PyProof.Rows L2
theorem op_notTrue {X : Cx} : OpR X (compareOp .IsNot) (fun x y H Q => ∃ b : Bool, x = .bl b ∧ y = .bl true ∧ Q (.bl (!b)) H) := by
  intro pins s σ H x y v u Q I rx ry h
  obtain ⟨b, rfl, rfl, q⟩ := h
  cases rx
  cases ry
  show wpAny (model X.prog X.w) X.A (compareOp .IsNot (.bool b) (.bool true)) (EP X pins σ Q) X.xe s
  have e : compareOp .IsNot (.bool b) (.bool true) = pure (.bool (!b)) := by cases b <;> rfl
  rw [e]
  exact wpAny_pure ⟨.bl (!b), H, I, rfl, q⟩
end Vx
/-! # zip of any number of lists, the lists in a list -/
namespace Vz
open PySem PySem.Spec PyProof.Rows L2
/-- the iterators stand at n0, n0 + 1, .., behind them the tuple of iterators, the owned tuple, the zip itself -/
structure ZS (n0 : Nat) (ls : List Addr) (i : Nat) (h : Heap) : Prop where
  z : ∃ (x0 : Value) (f : Bool), (x0 = .none ∨ ∃ T : Nat, x0 = rawInt T) ∧ h.get? (n0 + ls.length + 2) = some { cls := .type "zip", dict := none, data := .fields #[x0, .bool f, .bool false, .ref (n0 + ls.length), .ref (n0 + ls.length + 1)], slots := #[] }
  ti : h.get? (n0 + ls.length) = some { cls := .type "tuple", data := .seq ((List.range ls.length).map fun j => Value.ref (n0 + j)).toArray }
  to : ∃ vs : List Value, vs.length = ls.length ∧ h.get? (n0 + ls.length + 1) = some { cls := .type "tuple", data := .seq vs.toArray }
  its : ∀ (j : Nat) (l : Addr), ls[j]? = some l → h.IsListIter (n0 + j) l i
def Out (n0 n c : Nat) : Prop := c < n0 ∨ n0 + n + 2 < c
section
variable {prog : Program} {w : World} {A : Around} {E : Value → Shared → Prop} {s : Shared}
/-- within a free turn, k iterators having moved on -/
structure FS (n0 : Nat) (ls : List Addr) (us : List Value) (i : Nat) (f : Bool) (h0 : Heap) (k : Nat) (h : Heap) : Prop where
  sz : h.objs.size = h0.objs.size
  out : ∀ c : Nat, Out n0 ls.length c → h.get? c = h0.get? c
  z : h.get? (n0 + ls.length + 2) = some { cls := .type "zip", dict := none, data := .fields #[.ellipsis, .bool f, .bool false, .ref (n0 + ls.length), .ref (n0 + ls.length + 1)], slots := #[] }
  ti : h.get? (n0 + ls.length) = some { cls := .type "tuple", data := .seq ((List.range ls.length).map fun j => Value.ref (n0 + j)).toArray }
  to : ∃ vs : List Value, vs.length = ls.length ∧ vs.take k = us.take k ∧ h.get? (n0 + ls.length + 1) = some { cls := .type "tuple", data := .seq vs.toArray }
  its : ∀ (j : Nat) (l : Addr), ls[j]? = some l → h.IsListIter (n0 + j) l (if j < k then i + 1 else i)
theorem nn {a b : Nat} (h : a ≠ b) : @Ne Addr a b := h
theorem iter_of {h h' : Heap} {a l : Addr} {i : Nat} (x : h.IsListIter a l i) (e : h'.get? a = h.get? a) : h'.IsListIter a l i := x.at fun o q => by rw [e]; exact q
theorem list_of {h h' : Heap} {a : Addr} {items : Array Value} (x : h.IsList a items) (e : h'.get? a = h.get? a) : h'.IsList a items := x.at fun o q => by rw [e]; exact q
theorem take_set {us vs : List Value} {k : Nat} {u : Value} (hl : vs.length = us.length) (ht : vs.take k = us.take k) (hu : us[k]? = some u) : (vs.set k u).take (k + 1) = us.take (k + 1) := by
  have hk : k < us.length := (List.getElem?_eq_some_iff.mp hu).1
  apply List.ext_getElem?
  intro j
  by_cases hj : j < k + 1
  · rw [List.getElem?_take_of_lt hj, List.getElem?_take_of_lt hj]
    by_cases e : j = k
    · subst e
      rw [List.getElem?_set_self (by omega), hu]
    · rw [List.getElem?_set_ne (fun z => e z.symm)]
      have := congrArg (fun l => l[j]?) ht
      simpa [List.getElem?_take_of_lt (show j < k by omega)] using this
  · rw [List.getElem?_take_eq_none (by omega), List.getElem?_take_eq_none (by omega)]
/-- one step of a free turn -/
theorem FS.step {n0 : Nat} {ls : List Addr} {us : List Value} {i k : Nat} {f : Bool} {h0 h h2 h3 : Heap} {u : Value} (F : FS n0 ls us i f h0 k h) (hk : k < ls.length) (hl : us.length = ls.length) (hu : us[k]? = some u) {l : Addr} (hll : ls[k]? = some l)
    (h2i : h2.IsListIter (n0 + k) l (i + 1)) (s2 : Heap.SameBut (n0 + k) h h2) {vs : List Value} (hvl : vs.length = ls.length) (hvt : vs.take k = us.take k) (s3 : Heap.SameBut (n0 + ls.length + 1) h2 h3)
    (e3 : h3.get? (n0 + ls.length + 1) = some { cls := .type "tuple", data := .seq (vs.set k u).toArray }) : FS n0 ls us i f h0 (k + 1) h3 := by
  refine ⟨by rw [s3.1, s2.1, F.sz], fun c hc => ?_, ?_, ?_, ⟨vs.set k u, by rw [List.length_set, hvl], take_set (by rw [hvl, hl]) hvt hu, e3⟩, fun j l' hj => ?_⟩
  · have h1 : (c : Nat) ≠ n0 + ls.length + 1 := by unfold Out at hc; omega
    have h2 : (c : Nat) ≠ n0 + k := by unfold Out at hc; omega
    rw [s3.2 c h1, s2.2 c h2, F.out c hc]
  · rw [s3.2 _ (nn (by omega)), s2.2 _ (nn (by omega))]; exact F.z
  · rw [s3.2 _ (nn (by omega)), s2.2 _ (nn (by omega))]; exact F.ti
  · have hjl : j < ls.length := (List.getElem?_eq_some_iff.mp hj).1
    by_cases e : j = k
    · subst e
      rw [hll] at hj
      cases hj
      rw [if_pos (by omega)]
      exact iter_of h2i (s3.2 _ (nn (by omega)))
    · have := F.its j l' hj
      have q : h3.get? (n0 + j) = h.get? (n0 + j) := by rw [s3.2 _ (nn (by omega)), s2.2 _ (nn (by omega))]
      by_cases hlt : j < k
      · rw [if_pos hlt] at this
        rw [if_pos (by omega)]
        exact iter_of this q
      · rw [if_neg hlt] at this
        rw [if_neg (by omega)]
        exact iter_of this q
/-- within a turn whose tuple is still out -/
structure HS (n0 : Nat) (ls : List Addr) (i : Nat) (x0 : Value) (f : Bool) (h0 : Heap) (k : Nat) (h : Heap) : Prop where
  sz : h.objs.size = h0.objs.size
  out : ∀ c : Nat, Out n0 ls.length c → h.get? c = h0.get? c
  z : h.get? (n0 + ls.length + 2) = some { cls := .type "zip", dict := none, data := .fields #[x0, .bool f, .bool false, .ref (n0 + ls.length), .ref (n0 + ls.length + 1)], slots := #[] }
  ti : h.get? (n0 + ls.length) = some { cls := .type "tuple", data := .seq ((List.range ls.length).map fun j => Value.ref (n0 + j)).toArray }
  to : ∃ vs : List Value, vs.length = ls.length ∧ h.get? (n0 + ls.length + 1) = some { cls := .type "tuple", data := .seq vs.toArray }
  its : ∀ (j : Nat) (l : Addr), ls[j]? = some l → h.IsListIter (n0 + j) l (if j < k then i + 1 else i)
theorem HS.step {n0 : Nat} {ls : List Addr} {i k : Nat} {x0 : Value} {f : Bool} {h0 h h2 : Heap} (F : HS n0 ls i x0 f h0 k h) (hk : k < ls.length) {l : Addr} (hll : ls[k]? = some l)
    (h2i : h2.IsListIter (n0 + k) l (i + 1)) (s2 : Heap.SameBut (n0 + k) h h2) : HS n0 ls i x0 f h0 (k + 1) h2 := by
  obtain ⟨vs, hvl, e⟩ := F.to
  refine ⟨by rw [s2.1, F.sz], fun c hc => ?_, ?_, ?_, ⟨vs, hvl, ?_⟩, fun j l' hj => ?_⟩
  · have h2 : (c : Nat) ≠ n0 + k := by unfold Out at hc; omega
    rw [s2.2 c h2, F.out c hc]
  · rw [s2.2 _ (nn (by omega))]; exact F.z
  · rw [s2.2 _ (nn (by omega))]; exact F.ti
  · rw [s2.2 _ (nn (by omega))]; exact e
  · have hjl : j < ls.length := (List.getElem?_eq_some_iff.mp hj).1
    by_cases e : j = k
    · subst e
      rw [hll] at hj
      cases hj
      rw [if_pos (by omega)]
      exact h2i
    · have := F.its j l' hj
      have q : h2.get? (n0 + j) = h.get? (n0 + j) := s2.2 _ (nn (by omega))
      by_cases hlt : j < k
      · rw [if_pos hlt] at this
        rw [if_pos (by omega)]
        exact iter_of this q
      · rw [if_neg hlt] at this
        rw [if_neg (by omega)]
        exact iter_of this q
end
theorem drop_cons {α : Type} {x : α} {rest l : List α} {k : Nat} (e : x :: rest = l.drop k) : l[k]? = some x ∧ rest = l.drop (k + 1) := by
  constructor
  · have := congrArg (fun q => q[0]?) e
    simpa using this.symm
  · have := congrArg List.tail e
    simpa [List.tail_drop] using this
theorem zi_at {n n0 k : Nat} {x : Value × Nat} (h : (((List.range n).map fun j => Value.ref (n0 + j)).zipIdx)[k]? = some x) : k < n ∧ x = (Value.ref (n0 + k), k) := by
  rw [List.getElem?_zipIdx, List.getElem?_map] at h
  by_cases hk : k < n
  · rw [List.getElem?_range hk] at h
    simp at h
    exact ⟨hk, h.symm⟩
  · rw [List.getElem?_eq_none (by simpa using hk)] at h
    cases h
theorem it_at {n n0 k : Nat} {x : Value} (h : ((List.range n).map fun j => Value.ref (n0 + j))[k]? = some x) : k < n ∧ x = Value.ref (n0 + k) := by
  rw [List.getElem?_map] at h
  by_cases hk : k < n
  · rw [List.getElem?_range hk] at h
    simp at h
    exact ⟨hk, h.symm⟩
  · rw [List.getElem?_eq_none (by simpa using hk)] at h
    cases h
section
variable {prog : Program} {w : World} {A : Around} {E : Value → Shared → Prop} {s : Shared}
theorem alive {a : Addr} {Q : Option Obj → Shared → Prop} (h : Q (s.heap.get? a) s) : wpAny (model prog w) A (loadIfAlive a) Q E s := fun _ _ _ => h
/-- what is asked of the lists: all have an item at i; or one has none -/
def Has (h : Heap) (ls : List Addr) (i : Nat) (us : List Value) : Prop := ∀ (j : Nat) (l : Addr) (u : Value), ls[j]? = some l → us[j]? = some u → ∃ xs : Array Value, h.IsList l xs ∧ xs[i]? = some u
theorem next_item {n0 : Nat} {ls : List Addr} {us : List Value} {i : Nat} {Q : Value → Shared → Prop} (hne : ls ≠ []) (hsz : ls.length ≤ 1000000) (st : ZS n0 ls i s.heap) (hl : us.length = ls.length) (low : ∀ l ∈ ls, (l : Nat) < n0)
    (hi : Has s.heap ls i us)
    (hQ : ∀ h', ZS n0 ls (i + 1) h' → h'.get? s.heap.objs.size = some { cls := .type "tuple", data := .seq us.toArray } → h'.objs.size = s.heap.objs.size + 1 →
      (∀ c : Nat, Out n0 ls.length c → ∀ o, s.heap.get? c = some o → h'.get? c = some o) → Q (.ref s.heap.objs.size) { s with heap := h' }) :
    wpAny (model prog w) A (Builtin.«zip.__next__» ⟨[.ref (n0 + ls.length + 2)], []⟩) (fun fin s' => ∃ v, fin = .done (.ret v) ∧ Q v s') E s := by
  obtain ⟨⟨x0, f, hx0, hz⟩, hTI, ⟨vs, hvl, hTO⟩, hits⟩ := st
  have hnz : 0 < ls.length := by cases ls with | nil => exact absurd rfl hne | cons a r => exact Nat.succ_pos _
  have hb : s.heap.objs.size > n0 + ls.length + 2 := Heap.lt_size hz
  show wpAny _ _ (field (.ref (n0 + ls.length + 2)) 2 >>= _) _ _ _
  refine wpAny_bind (wpAny_field hz rfl (x := .bool false) rfl ?_)
  show wpAny _ _ (field (.ref (n0 + ls.length + 2)) 3 >>= _) _ _ _
  refine wpAny_bind (wpAny_field hz rfl (x := .ref (n0 + ls.length)) rfl ?_)
  refine wpAny_bind (wpAny_seqItems hTI rfl ?_)
  have hemp : (((List.range ls.length).map fun j => Value.ref (n0 + j)).toArray).isEmpty = false := by
    simp
    intro z; exact hne z
  simp only []
  rw [if_neg (by rw [hemp]; exact Bool.false_ne_true)]
  show wpAny _ _ (Builtin.SmallTypes.ownedTupleIsFree (.ref (n0 + ls.length + 2)) >>= _) _ _ _
  refine wpAny_bind ?_
  -- two ways
  refine wpAny_mono (Q := fun b s' => (b = true ∧ s' = s) ∨ (b = false ∧ ∃ h f', s' = { s with heap := h } ∧ Heap.SameBut (n0 + ls.length + 2) s.heap h ∧ h.get? (n0 + ls.length + 2) = some { cls := .type "zip", dict := none, data := .fields #[x0, .bool f', .bool false, .ref (n0 + ls.length), .ref (n0 + ls.length + 1)], slots := #[] })) (E := fun _ _ => False) ?_ ?_ (fun _ _ z => z.elim)
  · unfold Builtin.SmallTypes.ownedTupleIsFree
    rcases hx0 with rfl | ⟨T, rfl⟩
    · exact wpAny_bind (wpAny_field hz rfl (x := .none) rfl (wpAny_pure (.inl ⟨rfl, rfl⟩)))
    · refine wpAny_bind (wpAny_field hz rfl (x := rawInt T) rfl ?_)
      show wpAny _ _ (loadIfAlive ((T : Int).toNat) >>= _) _ _ _
      rw [Int.toNat_natCast]
      refine wpAny_bind ?_
      cases hT : s.heap.get? T with
      | none =>
        refine alive ?_
        rw [hT]
        simp only [Option.isNone_none, if_true]
        exact wpAny_pure (.inl ⟨rfl, rfl⟩)
      | some oT =>
        refine alive ?_
        rw [hT]
        simp only [Option.isNone_some, Bool.false_eq_true, if_false]
        refine wpAny_bind (wpAny_field hz rfl (x := .bool f) rfl ?_)
        cases f with
        | true =>
          rw [if_neg (show ¬ ((Value.bool true != Value.bool true) = true) from Bool.false_ne_true)]
          exact wpAny_pure (.inr ⟨rfl, s.heap, true, rfl, Heap.SameBut.refl _ _, hz⟩)
        | false =>
          rw [if_pos (show (Value.bool false != Value.bool true) = true from rfl)]
          exact wpAny_bind (wpAny_setField_rec hz (by simp) fun h₁ hz₁ hs₁ => wpAny_pure (.inr ⟨rfl, h₁, true, rfl, hs₁, hz₁⟩))
  rintro b s1 (⟨rfl, rfl⟩ | ⟨rfl, h₀, f', rfl, hs₀, hz₀⟩)
  · -- the tuple is free
    simp only [if_true]
    refine wpAny_bind (wpAny_rule ?_)
    refine wpAny_bind (wpAny_field hz rfl (x := .ref (n0 + ls.length + 1)) rfl ?_)
    refine wpAny_bind (wpAny_setField_rec hz (by simp) fun h₁ hz₁ hs₁ => ?_)
    refine wpAny_bind ?_
    have F0 : FS n0 ls us i f s1.heap 0 h₁ := by
      refine ⟨hs₁.1, fun c hc => hs₁.2 c (nn (by unfold Out at hc; omega)), hz₁, ?_, ⟨vs, hvl, by simp, ?_⟩, fun j l hj => ?_⟩
      · rw [hs₁.2 _ (nn (by omega))]; exact hTI
      · rw [hs₁.2 _ (nn (by omega))]; exact hTO
      · have hjl : j < ls.length := (List.getElem?_eq_some_iff.mp hj).1
        rw [if_neg (Nat.not_lt_zero _)]
        exact iter_of (hits j l hj) (hs₁.2 _ (nn (by omega)))
    refine wpAny_forIn_list _ (fun rest b s' => ∃ k h, b = (none, ()) ∧ rest = (((List.range ls.length).map fun j => Value.ref (n0 + j)).zipIdx).drop k ∧ k ≤ ls.length ∧ s' = { s1 with heap := h } ∧ FS n0 ls us i f s1.heap k h) _ ?_ ?_ _ _ ⟨0, h₁, rfl, rfl, Nat.zero_le _, rfl, F0⟩
    · rintro x rest b _ ⟨k, h, rfl, hrest, hk, rfl, F⟩
      obtain ⟨hx, hr⟩ := drop_cons hrest
      obtain ⟨hkl, rfl⟩ := zi_at hx
      obtain ⟨l, hll⟩ : ∃ l, ls[k]? = some l := ⟨_, List.getElem?_eq_getElem hkl⟩
      obtain ⟨u, hu⟩ : ∃ u, us[k]? = some u := ⟨_, List.getElem?_eq_getElem (by omega)⟩
      obtain ⟨xs, hxs, hxi⟩ := hi k l u hll hu
      have lo := low l (List.mem_of_getElem? hll)
      have hit := F.its k l hll
      rw [if_neg (Nat.lt_irrefl _)] at hit
      refine wpAny_bind (wpAny_onRaise ?_)
      show wpAny _ _ (Builtin.SmallTypes.nextOf (.ref (n0 + k)) >>= _) _ _ _
      refine wpAny_bind (wpAny_nextOf_list_item hit (list_of hxs (F.out l (.inl lo))) hxi fun h₂ h2i hs₂ => wpAny_pure ?_)
      obtain ⟨vs', hvl', hvt', hto'⟩ := F.to
      have hto2 : h₂.get? (n0 + ls.length + 1) = some { cls := .type "tuple", data := .seq vs'.toArray } := by rw [hs₂.2 _ (nn (by omega))]; exact hto'
      refine wpAny_bind (wpAny_seqItems hto2 rfl ?_)
      refine wpAny_bind (wpAny_updateSeq hto2 rfl ?_ (by simp [hvl']; show _ ≤ sizeLine; unfold sizeLine; omega) (by simp [hvl']; show _ ≤ sizeLine + 1; unfold sizeLine; omega))
      refine wpAny_bind (wpAny_letGo (wpAny_pure ?_))
      refine ⟨k + 1, _, rfl, hr, hkl, rfl, F.step hkl hl hu hll h2i hs₂ hvl' hvt' (Heap.SameBut.update ..) ?_⟩
      rw [Heap.get?_update_self _ hto2 rfl]
      simp [Obj.mapSeq]
    · rintro b _ ⟨k, h, rfl, hrest, hk, rfl, F⟩
      have hkn : k = ls.length := by
        have := congrArg List.length hrest
        simp at this
        omega
      subst hkn
      obtain ⟨vs', hvl', hvt', hto'⟩ := F.to
      have hvu : vs' = us := by rw [List.take_of_length_le (by omega), List.take_of_length_le (by omega)] at hvt'; exact hvt'
      subst hvu
      refine wpAny_bind (wpAny_seqItems hto' rfl ?_)
      refine wpAny_bind (wpAny_newTuple ?_ (by simp [hvl']; unfold sizeLine; omega))
      show wpAny _ _ (Builtin.SmallTypes.ownedTupleHandOut (.ref (n0 + ls.length + 2)) (.ref h.objs.size) >>= _) _ _ _
      refine wpAny_bind ?_
      unfold Builtin.SmallTypes.ownedTupleHandOut
      have hz₆ := Heap.get?_push_of_some { cls := .type "tuple", data := .seq vs'.toArray } F.z
      have hTT : (h.push { cls := .type "tuple", data := .seq vs'.toArray }).get? h.objs.size = some { cls := .type "tuple", data := .seq vs'.toArray } := Heap.get?_push_size _ rfl
      refine wpAny_bind (wpAny_setField_rec (s := { s1 with heap := h.push _ }) hz₆ (by simp) fun h₇ hz₇ hs₇ => ?_)
      refine wpAny_setField_rec (s := { s1 with heap := h₇ }) hz₇ (by simp) fun h₈ hz₈ hs₈ => ?_
      have hsz' : h.objs.size = s1.heap.objs.size := F.sz
      have up : ∀ c : Nat, c ≠ n0 + ls.length + 2 → ∀ o, h.get? c = some o → h₈.get? c = some o := fun c c1 o e => by
        rw [hs₈.2 c (nn c1), hs₇.2 c (nn c1)]
        exact Heap.get?_push_of_some _ e
      refine wpAny_pure ⟨_, rfl, ?_⟩
      show Q (.ref h.objs.size) _
      rw [hsz']
      refine hQ h₈ ⟨⟨_, _, .inr ⟨_, rfl⟩, hz₈⟩, up _ (by omega) _ F.ti, ⟨vs', hvl', up _ (by omega) _ hto'⟩, fun j l hj => ?_⟩ ?_ ?_ ?_
      · have hjl : j < ls.length := (List.getElem?_eq_some_iff.mp hj).1
        have := F.its j l hj
        rw [if_pos hjl] at this
        exact this.at fun o q => up _ (by omega) _ q
      · rw [← hsz', hs₈.2 _ (nn (by omega)), hs₇.2 _ (nn (by omega))]
        exact hTT
      · rw [hs₈.1, hs₇.1, Heap.size_push, hsz']
      · intro c hc o q
        have hc' := hc
        unfold Out at hc
        exact up c (by omega) o (by rw [F.out c hc']; exact q)
  · simp only [Bool.false_eq_true, if_false]
    refine wpAny_bind ?_
    have F0 : HS n0 ls i x0 f' s.heap 0 h₀ := by
      refine ⟨hs₀.1, fun c hc => hs₀.2 c (nn (by unfold Out at hc; omega)), hz₀, ?_, ⟨vs, hvl, ?_⟩, fun j l hj => ?_⟩
      · rw [hs₀.2 _ (nn (by omega))]; exact hTI
      · rw [hs₀.2 _ (nn (by omega))]; exact hTO
      · have hjl : j < ls.length := (List.getElem?_eq_some_iff.mp hj).1
        rw [if_neg (Nat.not_lt_zero _)]
        exact iter_of (hits j l hj) (hs₀.2 _ (nn (by omega)))
    rw [← Array.forIn_toList]
    refine wpAny_forIn_list _ (fun rest b s' => ∃ k h, b = (none, (us.take k).toArray) ∧ rest = ((List.range ls.length).map fun j => Value.ref (n0 + j)).drop k ∧ k ≤ ls.length ∧ s' = { s with heap := h } ∧ HS n0 ls i x0 f' s.heap k h) _ ?_ ?_ _ _ ⟨0, h₀, by simp, by simp, Nat.zero_le _, rfl, F0⟩
    · rintro x rest b _ ⟨k, h, rfl, hrest, hk, rfl, F⟩
      obtain ⟨hx, hr⟩ := drop_cons hrest
      obtain ⟨hkl, rfl⟩ := it_at hx
      obtain ⟨l, hll⟩ : ∃ l, ls[k]? = some l := ⟨_, List.getElem?_eq_getElem hkl⟩
      obtain ⟨u, hu⟩ : ∃ u, us[k]? = some u := ⟨_, List.getElem?_eq_getElem (by omega)⟩
      obtain ⟨xs, hxs, hxi⟩ := hi k l u hll hu
      have lo := low l (List.mem_of_getElem? hll)
      have hit := F.its k l hll
      rw [if_neg (Nat.lt_irrefl _)] at hit
      refine wpAny_bind (wpAny_holding ?_)
      show wpAny _ _ (Builtin.SmallTypes.nextOf (.ref (n0 + k)) >>= _) _ _ _
      refine wpAny_bind (wpAny_nextOf_list_item hit (list_of hxs (F.out l (.inl lo))) hxi fun h₂ h2i hs₂ => wpAny_pure ?_)
      refine wpAny_pure ⟨k + 1, h₂, ?_, hr, hkl, rfl, F.step hkl hll h2i hs₂⟩
      rw [List.take_succ, hu]
      simp
    · rintro b _ ⟨k, h, rfl, hrest, hk, rfl, F⟩
      have hkn : k = ls.length := by
        have := congrArg List.length hrest
        simp at this
        omega
      subst hkn
      have hut : us.take ls.length = us := List.take_of_length_le (by omega)
      rw [hut]
      refine wpAny_bind (wpAny_newTuple ?_ (by simp [hl]; unfold sizeLine; omega))
      refine wpAny_pure ⟨_, rfl, ?_⟩
      have hsz' : h.objs.size = s.heap.objs.size := F.sz
      show Q (.ref h.objs.size) _
      have hT : (h.push { cls := .type "tuple", data := .seq us.toArray }).get? h.objs.size = some { cls := .type "tuple", data := .seq us.toArray } := Heap.get?_push_size _ rfl
      have up : ∀ (c : Nat) o, h.get? c = some o → (h.push { cls := .type "tuple", data := .seq us.toArray }).get? c = some o := fun c o e => Heap.get?_push_of_some _ e
      rw [hsz']
      obtain ⟨vs', hvl', hto'⟩ := F.to
      refine hQ (h.push { cls := .type "tuple", data := .seq us.toArray }) ⟨⟨x0, f', hx0, up _ _ F.z⟩, up _ _ F.ti, ⟨vs', hvl', up _ _ hto'⟩, fun j l hj => ?_⟩ ?_ ?_ ?_
      · have hjl : j < ls.length := (List.getElem?_eq_some_iff.mp hj).1
        have := F.its j l hj
        rw [if_pos hjl] at this
        exact this.at fun o q => up _ _ q
      · rw [← hsz']
        exact hT
      · rw [Heap.size_push, hsz']
      · intro c hc o q
        exact up c o (by rw [F.out c hc]; exact q)
theorem HS.step2 {n0 : Nat} {ls : List Addr} {i k : Nat} {x0 : Value} {f : Bool} {h0 h h2 h3 : Heap} (F : HS n0 ls i x0 f h0 k h) (hk : k < ls.length) {l : Addr} (hll : ls[k]? = some l)
    (h2i : h2.IsListIter (n0 + k) l (i + 1)) (s2 : Heap.SameBut (n0 + k) h h2) (s3 : Heap.SameBut (n0 + ls.length + 1) h2 h3) {vs : List Value} (hvl : vs.length = ls.length) (e3 : h3.get? (n0 + ls.length + 1) = some { cls := .type "tuple", data := .seq vs.toArray }) : HS n0 ls i x0 f h0 (k + 1) h3 := by
  have G := F.step hk hll h2i s2
  refine ⟨by rw [s3.1, G.sz], fun c hc => ?_, ?_, ?_, ⟨vs, hvl, e3⟩, fun j l' hj => ?_⟩
  · rw [s3.2 c (nn (by unfold Out at hc; omega)), G.out c hc]
  · rw [s3.2 _ (nn (by omega))]; exact G.z
  · rw [s3.2 _ (nn (by omega))]; exact G.ti
  · have hjl : j < ls.length := (List.getElem?_eq_some_iff.mp hj).1
    exact iter_of (G.its j l' hj) (s3.2 _ (nn (by omega)))
theorem next_end {n0 : Nat} {ls : List Addr} {i : Nat} {Q : Fin → Shared → Prop} (hh : A.handled = none) (hsz : ls.length ≤ 1000000) (st : ZS n0 ls i s.heap) (low : ∀ l ∈ ls, (l : Nat) < n0)
    (hls : ∀ (j : Nat) (l : Addr), ls[j]? = some l → ∃ xs : Array Value, s.heap.IsList l xs) (hend : ∃ (j : Nat) (l : Addr), ls[j]? = some l ∧ ∀ xs : Array Value, s.heap.IsList l xs → xs[i]? = none)
    (hE : ∀ h' e, (∀ c : Nat, Out n0 ls.length c → ∀ o, s.heap.get? c = some o → h'.get? c = some o) → (∃ o, h'.get? e = some o ∧ o.cls = .type "StopIteration") → E (.ref e) { s with heap := h' }) :
    wpAny (model prog w) A (Builtin.«zip.__next__» ⟨[.ref (n0 + ls.length + 2)], []⟩) Q E s := by
  obtain ⟨⟨x0, f, hx0, hz⟩, hTI, ⟨vs, hvl, hTO⟩, hits⟩ := st
  obtain ⟨jm, lm, hjm, hnone⟩ := hend
  have hjml : jm < ls.length := (List.getElem?_eq_some_iff.mp hjm).1
  have hb : s.heap.objs.size > n0 + ls.length + 2 := Heap.lt_size hz
  show wpAny _ _ (field (.ref (n0 + ls.length + 2)) 2 >>= _) _ _ _
  refine wpAny_bind (wpAny_field hz rfl (x := .bool false) rfl ?_)
  show wpAny _ _ (field (.ref (n0 + ls.length + 2)) 3 >>= _) _ _ _
  refine wpAny_bind (wpAny_field hz rfl (x := .ref (n0 + ls.length)) rfl ?_)
  refine wpAny_bind (wpAny_seqItems hTI rfl ?_)
  have hemp : (((List.range ls.length).map fun j => Value.ref (n0 + j)).toArray).isEmpty = false := by
    simp
    intro z; subst z; exact Nat.not_lt_zero _ hjml
  simp only []
  rw [if_neg (by rw [hemp]; exact Bool.false_ne_true)]
  show wpAny _ _ (Builtin.SmallTypes.ownedTupleIsFree (.ref (n0 + ls.length + 2)) >>= _) _ _ _
  refine wpAny_bind ?_
  refine wpAny_mono (Q := fun b s' => (b = true ∧ s' = s) ∨ (b = false ∧ ∃ h f', s' = { s with heap := h } ∧ Heap.SameBut (n0 + ls.length + 2) s.heap h ∧ h.get? (n0 + ls.length + 2) = some { cls := .type "zip", dict := none, data := .fields #[x0, .bool f', .bool false, .ref (n0 + ls.length), .ref (n0 + ls.length + 1)], slots := #[] })) (E := fun _ _ => False) ?_ ?_ (fun _ _ z => z.elim)
  · unfold Builtin.SmallTypes.ownedTupleIsFree
    rcases hx0 with rfl | ⟨T, rfl⟩
    · exact wpAny_bind (wpAny_field hz rfl (x := .none) rfl (wpAny_pure (.inl ⟨rfl, rfl⟩)))
    · refine wpAny_bind (wpAny_field hz rfl (x := rawInt T) rfl ?_)
      show wpAny _ _ (loadIfAlive ((T : Int).toNat) >>= _) _ _ _
      rw [Int.toNat_natCast]
      refine wpAny_bind ?_
      cases hT : s.heap.get? T with
      | none =>
        refine alive ?_
        rw [hT]
        simp only [Option.isNone_none, if_true]
        exact wpAny_pure (.inl ⟨rfl, rfl⟩)
      | some oT =>
        refine alive ?_
        rw [hT]
        simp only [Option.isNone_some, Bool.false_eq_true, if_false]
        refine wpAny_bind (wpAny_field hz rfl (x := .bool f) rfl ?_)
        cases f with
        | true =>
          rw [if_neg (show ¬ ((Value.bool true != Value.bool true) = true) from Bool.false_ne_true)]
          exact wpAny_pure (.inr ⟨rfl, s.heap, true, rfl, Heap.SameBut.refl _ _, hz⟩)
        | false =>
          rw [if_pos (show (Value.bool false != Value.bool true) = true from rfl)]
          exact wpAny_bind (wpAny_setField_rec hz (by simp) fun h₁ hz₁ hs₁ => wpAny_pure (.inr ⟨rfl, h₁, true, rfl, hs₁, hz₁⟩))
  rintro b s1 (⟨rfl, rfl⟩ | ⟨rfl, h₀, f', rfl, hs₀, hz₀⟩)
  · simp only [if_true]
    refine wpAny_bind (wpAny_rule ?_)
    refine wpAny_bind (wpAny_field hz rfl (x := .ref (n0 + ls.length + 1)) rfl ?_)
    refine wpAny_bind (wpAny_setField_rec hz (by simp) fun h₁ hz₁ hs₁ => ?_)
    refine wpAny_bind ?_
    have F0 : HS n0 ls i .ellipsis f s1.heap 0 h₁ := by
      refine ⟨hs₁.1, fun c hc => hs₁.2 c (nn (by unfold Out at hc; omega)), hz₁, ?_, ⟨vs, hvl, ?_⟩, fun j l hj => ?_⟩
      · rw [hs₁.2 _ (nn (by omega))]; exact hTI
      · rw [hs₁.2 _ (nn (by omega))]; exact hTO
      · have hjl : j < ls.length := (List.getElem?_eq_some_iff.mp hj).1
        rw [if_neg (Nat.not_lt_zero _)]
        exact iter_of (hits j l hj) (hs₁.2 _ (nn (by omega)))
    refine wpAny_forIn_list _ (fun rest b s' => ∃ k h, b = (none, ()) ∧ rest = (((List.range ls.length).map fun j => Value.ref (n0 + j)).zipIdx).drop k ∧ k ≤ jm ∧ s' = { s1 with heap := h } ∧ HS n0 ls i .ellipsis f s1.heap k h) _ ?_ ?_ _ _ ⟨0, h₁, rfl, rfl, Nat.zero_le _, rfl, F0⟩
    · rintro x rest b _ ⟨k, h, rfl, hrest, hk, rfl, F⟩
      obtain ⟨hx, hr⟩ := drop_cons hrest
      obtain ⟨hkl, rfl⟩ := zi_at hx
      obtain ⟨l, hll⟩ : ∃ l, ls[k]? = some l := ⟨_, List.getElem?_eq_getElem hkl⟩
      obtain ⟨xs, hxs⟩ := hls k l hll
      have lo := low l (List.mem_of_getElem? hll)
      have hit := F.its k l hll
      rw [if_neg (Nat.lt_irrefl _)] at hit
      refine wpAny_bind (wpAny_onRaise ?_)
      show wpAny _ _ (Builtin.SmallTypes.nextOf (.ref (n0 + k)) >>= _) _ _ _
      cases hxi : xs[i]? with
      | none =>
        refine wpAny_bind (wpAny_nextOf_list_end hh hit (list_of hxs (F.out l (.inl lo))) hxi fun h₂ e hs₂ he => ?_)
        obtain ⟨oe, hoe, hce⟩ := he
        have hz₂ := hs₂ _ _ (nn (show n0 + ls.length + 2 ≠ n0 + k by omega)) F.z
        have hez : e ≠ (n0 + ls.length + 2 : Nat) := fun x => by subst x; rw [hz₂] at hoe; cases hoe; simp at hce
        refine wpAny_setField_rec (s := { s1 with heap := h₂ }) hz₂ (by simp) fun h₃ _ hs₃ => hE h₃ e (fun c hc o q => ?_) ⟨oe, hs₃.extBut _ _ hez hoe, hce⟩
        have hc' := hc
        unfold Out at hc
        exact hs₃.extBut _ _ (nn (by omega)) (hs₂ _ _ (nn (by omega)) (by rw [F.out c hc']; exact q))
      | some u =>
        refine wpAny_bind (wpAny_nextOf_list_item hit (list_of hxs (F.out l (.inl lo))) hxi fun h₂ h2i hs₂ => wpAny_pure ?_)
        obtain ⟨vs', hvl', hto'⟩ := F.to
        have hto2 : h₂.get? (n0 + ls.length + 1) = some { cls := .type "tuple", data := .seq vs'.toArray } := by rw [hs₂.2 _ (nn (by omega))]; exact hto'
        refine wpAny_bind (wpAny_seqItems hto2 rfl ?_)
        refine wpAny_bind (wpAny_updateSeq hto2 rfl ?_ (by simp [hvl']; show _ ≤ sizeLine; unfold sizeLine; omega) (by simp [hvl']; show _ ≤ sizeLine + 1; unfold sizeLine; omega))
        refine wpAny_bind (wpAny_letGo (wpAny_pure ?_))
        have hkj : k ≠ jm := by
          rintro rfl
          rw [hll] at hjm
          cases hjm
          rw [hnone xs hxs] at hxi
          cases hxi
        refine ⟨k + 1, _, rfl, hr, by omega, rfl, F.step2 (vs := vs'.set k u) hkl hll h2i hs₂ (Heap.SameBut.update ..) (by rw [List.length_set, hvl']) ?_⟩
        rw [Heap.get?_update_self _ hto2 rfl]
        simp [Obj.mapSeq]
    · rintro b _ ⟨k, h, rfl, hrest, hk, rfl, F⟩
      have := congrArg List.length hrest
      simp at this
      omega
  · simp only [Bool.false_eq_true, if_false]
    refine wpAny_bind ?_
    have F0 : HS n0 ls i x0 f' s.heap 0 h₀ := by
      refine ⟨hs₀.1, fun c hc => hs₀.2 c (nn (by unfold Out at hc; omega)), hz₀, ?_, ⟨vs, hvl, ?_⟩, fun j l hj => ?_⟩
      · rw [hs₀.2 _ (nn (by omega))]; exact hTI
      · rw [hs₀.2 _ (nn (by omega))]; exact hTO
      · have hjl : j < ls.length := (List.getElem?_eq_some_iff.mp hj).1
        rw [if_neg (Nat.not_lt_zero _)]
        exact iter_of (hits j l hj) (hs₀.2 _ (nn (by omega)))
    rw [← Array.forIn_toList]
    refine wpAny_forIn_list _ (fun rest b s' => ∃ k h, b.1 = none ∧ rest = ((List.range ls.length).map fun j => Value.ref (n0 + j)).drop k ∧ k ≤ jm ∧ s' = { s with heap := h } ∧ HS n0 ls i x0 f' s.heap k h) _ ?_ ?_ _ _ ⟨0, h₀, rfl, by simp, Nat.zero_le _, rfl, F0⟩
    · rintro x rest b _ ⟨k, h, hb1, hrest, hk, rfl, F⟩
      obtain ⟨hx, hr⟩ := drop_cons hrest
      obtain ⟨hkl, rfl⟩ := it_at hx
      obtain ⟨l, hll⟩ : ∃ l, ls[k]? = some l := ⟨_, List.getElem?_eq_getElem hkl⟩
      obtain ⟨xs, hxs⟩ := hls k l hll
      have lo := low l (List.mem_of_getElem? hll)
      have hit := F.its k l hll
      rw [if_neg (Nat.lt_irrefl _)] at hit
      refine wpAny_bind (wpAny_holding ?_)
      show wpAny _ _ (Builtin.SmallTypes.nextOf (.ref (n0 + k)) >>= _) _ _ _
      cases hxi : xs[i]? with
      | none =>
        refine wpAny_bind (wpAny_nextOf_list_end hh hit (list_of hxs (F.out l (.inl lo))) hxi fun h₂ e hs₂ he => ?_)
        refine hE h₂ e (fun c hc o q => ?_) he
        have hc' := hc
        unfold Out at hc
        exact hs₂ _ _ (nn (by omega)) (by rw [F.out c hc']; exact q)
      | some u =>
        refine wpAny_bind (wpAny_nextOf_list_item hit (list_of hxs (F.out l (.inl lo))) hxi fun h₂ h2i hs₂ => wpAny_pure ?_)
        have hkj : k ≠ jm := by
          rintro rfl
          rw [hll] at hjm
          cases hjm
          rw [hnone xs hxs] at hxi
          cases hxi
        exact wpAny_pure ⟨k + 1, h₂, rfl, hr, by omega, rfl, F.step hkl hll h2i hs₂⟩
    · rintro b _ ⟨k, h, hb1, hrest, hk, rfl, F⟩
      have := congrArg List.length hrest
      simp at this
      omega
end
section
theorem typeCall_4 : ∀ vs : List Value, vs.length = 4 → checkTypeCall "zip" ⟨vs, []⟩ = pure ()
  | [a, b, c, d], _ => by kernel_rfl
theorem typeCall_6 : ∀ vs : List Value, vs.length = 6 → checkTypeCall "zip" ⟨vs, []⟩ = pure ()
  | [a, b, c, d, e, f], _ => by kernel_rfl
theorem typeCall_8 : ∀ vs : List Value, vs.length = 8 → checkTypeCall "zip" ⟨vs, []⟩ = pure ()
  | [a, b, c, d, e, f, g, h], _ => by kernel_rfl
theorem newCall_4 : ∀ vs : List Value, vs.length = 4 → checkBuiltinCall "zip.__new__" ⟨.type "zip" :: vs, []⟩ = pure ()
  | [a, b, c, d], _ => by kernel_rfl
theorem newCall_6 : ∀ vs : List Value, vs.length = 6 → checkBuiltinCall "zip.__new__" ⟨.type "zip" :: vs, []⟩ = pure ()
  | [a, b, c, d, e, f], _ => by kernel_rfl
theorem newCall_8 : ∀ vs : List Value, vs.length = 8 → checkBuiltinCall "zip.__new__" ⟨.type "zip" :: vs, []⟩ = pure ()
  | [a, b, c, d, e, f, g, h], _ => by kernel_rfl
theorem init_4 (o : Value) : ∀ vs : List Value, vs.length = 4 → argsOk "object.__init__" ⟨o :: vs, []⟩
  | [a, b, c, d], _ => by
    unfold argsOk; rw [signature?_of (id := "object.__init__") (n := ['_', '_', 't', 'i', 'n', 'i', '_', '_']) (o := ['t', 'c', 'e', 'j', 'b', 'o']) (by kernel_rfl) F.owner_object]; kernel_rfl
theorem init_6 (o : Value) : ∀ vs : List Value, vs.length = 6 → argsOk "object.__init__" ⟨o :: vs, []⟩
  | [a, b, c, d, e, f], _ => by
    unfold argsOk; rw [signature?_of (id := "object.__init__") (n := ['_', '_', 't', 'i', 'n', 'i', '_', '_']) (o := ['t', 'c', 'e', 'j', 'b', 'o']) (by kernel_rfl) F.owner_object]; kernel_rfl
theorem init_8 (o : Value) : ∀ vs : List Value, vs.length = 8 → argsOk "object.__init__" ⟨o :: vs, []⟩
  | [a, b, c, d, e, f, g, h], _ => by
    unfold argsOk; rw [signature?_of (id := "object.__init__") (n := ['_', '_', 't', 'i', 'n', 'i', '_', '_']) (o := ['t', 'c', 'e', 'j', 'b', 'o']) (by kernel_rfl) F.owner_object]; kernel_rfl
end
end Vz
namespace Vz
open PySem PySem.Spec PyProof.Rows L2
section
variable {prog : Program} {w : World} {A : Around} {E : Value → Shared → Prop} {s : Shared}
/-- the iterators of the lists, one after the other -/
theorem iterAll_lists (ls : List Addr) (hl : ∀ l ∈ ls, ∃ xs : Array Value, s.heap.IsList l xs) :
    wpAny (model prog w) A (Builtin.SmallTypes.iterAll (ls.map Value.ref)) (fun its s' => its = (List.range ls.length).map (fun j => Value.ref (s.heap.objs.size + j)) ∧ ∃ h1, s' = { s with heap := h1 } ∧ h1.objs.size = s.heap.objs.size + ls.length ∧
      (∀ c o, s.heap.get? c = some o → h1.get? c = some o) ∧ ∀ (j : Nat) (l : Addr), ls[j]? = some l → h1.IsListIter ((s.heap.objs.size + j : Nat)) l 0) (fun _ _ => False) s := by
  unfold Builtin.SmallTypes.iterAll
  refine wpAny_bind ?_
  refine wpAny_forIn_list _ (fun rest b s' => ∃ k h1, b = ((List.range k).map (fun j => Value.ref (s.heap.objs.size + j))).toArray ∧ rest = (ls.map Value.ref).drop k ∧ k ≤ ls.length ∧ s' = { s with heap := h1 } ∧ h1.objs.size = s.heap.objs.size + k ∧ (∀ c o, s.heap.get? c = some o → h1.get? c = some o) ∧ ∀ (j : Nat) (l : Addr), j < k → ls[j]? = some l → h1.IsListIter ((s.heap.objs.size + j : Nat)) l 0) _ ?_ ?_ _ _ ⟨0, s.heap, rfl, rfl, Nat.zero_le _, rfl, rfl, fun _ _ q => q, fun j l hj => absurd hj (Nat.not_lt_zero _)⟩
  · rintro x rest b _ ⟨k, h1, rfl, hrest, hk, rfl, hsz, hkp, hit⟩
    obtain ⟨hx, hr⟩ := drop_cons hrest
    rw [List.getElem?_map] at hx
    have hkl : k < ls.length := by
      by_cases q : k < ls.length
      · exact q
      · rw [List.getElem?_eq_none (by omega)] at hx; cases hx
    rw [List.getElem?_eq_getElem hkl] at hx
    obtain rfl : Value.ref ls[k] = x := by simpa using hx
    obtain ⟨xs, hxs⟩ := hl ls[k] (List.getElem_mem hkl)
    refine wpAny_bind (wpAny_holding ?_)
    refine wpAny_pyIter_list (s := { s with heap := h1 }) (hxs.at fun o q => hkp _ _ q) ?_
    refine wpAny_pure ⟨k + 1, _, ?_, hr, hkl, rfl, ?_, fun c o q => Heap.get?_push_of_some _ (hkp c o q), fun j l hj hjl => ?_⟩
    · rw [List.range_succ, List.map_append, hsz]
      simp
    · rw [Heap.size_push, hsz]; rfl
    · by_cases e : j = k
      · subst e
        rw [List.getElem?_eq_getElem hkl] at hjl
        cases hjl
        exact ⟨_, by rw [← hsz]; exact Heap.get?_push_size _ rfl, rfl, rfl⟩
      · exact (hit j l (by omega) hjl).at fun o q => Heap.get?_push_of_some _ q
  · rintro b _ ⟨k, h1, rfl, hrest, hk, rfl, hsz, hkp, hit⟩
    have hkn : k = ls.length := by
      have := congrArg List.length hrest
      simp at this
      omega
    subst hkn
    exact wpAny_pure ⟨by simp, h1, rfl, hsz, hkp, fun j l hj => hit j l (List.getElem?_eq_some_iff.mp hj).1 hj⟩
theorem zip_new_N (ls : List Addr) (hn : ls.length ≤ 1000000) : Meets (Builtin.«zip.__new__» ⟨.type "zip" :: ls.map Value.ref, []⟩) (fun _ R s => (∀ l ∈ ls, ∃ xs : Array Value, s.heap.IsList l xs) ∧
      ∀ h', ZS s.heap.objs.size ls 0 h' → (∀ c o, s.heap.get? c = some o → h'.get? c = some o) → R (.ok (.ret (.ref (s.heap.objs.size + ls.length + 2)))) { s with heap := h' }) :=
  .of_wp fun prog w A R s hh => by
    obtain ⟨hl, h⟩ := hh
    have hsub := sub_zip
    unfold Builtin.«zip.__new__»
    refine wpAny_bind ?_
    have hc : wpAny (model prog w) A.in1 (Builtin.SmallTypes.newClass "zip" ⟨.type "zip" :: ls.map Value.ref, []⟩) (fun r s' => r = (.type "zip", ls.map Value.ref) ∧ s' = s) (fun e s' => R (.error e) s') s := by
      unfold Builtin.SmallTypes.newClass
      repeat (any_goals (first | assumption | wp_step))
      exact ⟨rfl, rfl⟩
    refine wpAny_mono hc ?_ (fun _ _ z => z)
    rintro r s' ⟨rfl, rfl⟩
    show wpAny _ _ (Builtin.SmallTypes.iterAll (ls.map Value.ref) >>= fun its => newTuple its >>= fun t1 => newTuple (its.map fun _ => .none) >>= fun t2 => Builtin.SmallTypes.newRecord (.type "zip") (Builtin.SmallTypes.ownedTupleFields ++ [Value.bool false, t1, t2]) >>= fun r => ret r) _ _ _
    refine wpAny_bind ?_
    refine wpAny_mono (iterAll_lists ls hl) ?_ (fun _ _ z => z.elim)
    rintro its _ ⟨rfl, h1, rfl, hsz, hk, hit⟩
    refine wpAny_bind (wpAny_newTuple ?_ (by simp; unfold sizeLine; omega))
    refine wpAny_bind (wpAny_newTuple ?_ (by simp; unfold sizeLine; omega))
    refine wpAny_bind ?_
    unfold Builtin.SmallTypes.newRecord
    refine wpAny_newObj_type ?_ (by first | trivial | (simp only [sizeOk]; decide) | (simp [sizeOk]; decide))
    refine wpAny_pure ⟨_, rfl, ?_⟩
    generalize pA : h1.push { cls := .type "tuple", data := .seq ((List.range ls.length).map fun j => Value.ref (s'.heap.objs.size + j)).toArray } = hA
    have eA : hA.objs.size = s'.heap.objs.size + ls.length + 1 := by rw [← pA, Heap.size_push, hsz]
    have gA : hA.get? (s'.heap.objs.size + ls.length) = some { cls := .type "tuple", data := .seq ((List.range ls.length).map fun j => Value.ref (s'.heap.objs.size + j)).toArray } := by
      rw [← pA, ← hsz]; exact Heap.get?_push_size _ rfl
    have kA : ∀ c o, h1.get? c = some o → hA.get? c = some o := fun c o q => by rw [← pA]; exact Heap.get?_push_of_some _ q
    simp only [hsz, eA]
    generalize pB : hA.push { cls := .type "tuple", data := .seq (((List.range ls.length).map fun j => Value.ref (s'.heap.objs.size + j)).map fun _ => Value.none).toArray } = hB
    have eB : hB.objs.size = s'.heap.objs.size + ls.length + 2 := by rw [← pB, Heap.size_push, eA]
    have gB : hB.get? (s'.heap.objs.size + ls.length + 1) = some { cls := .type "tuple", data := .seq (((List.range ls.length).map fun j => Value.ref (s'.heap.objs.size + j)).map fun _ => Value.none).toArray } := by
      rw [← pB, ← eA]; exact Heap.get?_push_size _ rfl
    have kB : ∀ c o, hA.get? c = some o → hB.get? c = some o := fun c o q => by rw [← pB]; exact Heap.get?_push_of_some _ q
    simp only [eB]
    generalize pC : hB.push _ = hC
    have gC : hC.get? (s'.heap.objs.size + ls.length + 2) = some { cls := .type "zip", dict := none, data := .fields #[.none, .bool false, .bool false, .ref (s'.heap.objs.size + ls.length), .ref (s'.heap.objs.size + ls.length + 1)], slots := #[] } := by rw [← pC, ← eB]; exact Heap.get?_push_size _ rfl
    have kC : ∀ c o, hB.get? c = some o → hC.get? c = some o := fun c o q => by rw [← pC]; exact Heap.get?_push_of_some _ q
    refine h hC ⟨⟨.none, false, .inl rfl, gC⟩, kC _ _ (kB _ _ gA), ⟨_, by simp, kC _ _ gB⟩, fun j l hj => (hit j l hj).at fun o q => kC _ _ (kB _ _ (kA _ _ q))⟩ fun c o q => kC _ _ (kB _ _ (kA _ _ (hk c o q)))
theorem call_zipN {ls : List Addr} {Q : Value → Shared → Prop} (hn : ls.length = 4 ∨ ls.length = 6 ∨ ls.length = 8) (hl : ∀ l ∈ ls, ∃ xs : Array Value, s.heap.IsList l xs)
    (h : ∀ h', ZS s.heap.objs.size ls 0 h' → (∀ c o, s.heap.get? c = some o → h'.get? c = some o) → Q (.ref (s.heap.objs.size + ls.length + 2)) { s with heap := h' }) :
    wpAny (model prog w) A (call (.type "zip") (ls.map Value.ref)) Q E s := by
  have hct : checkTypeCall "zip" ⟨ls.map Value.ref, []⟩ = pure () := by
    rcases hn with q | q | q
    · exact typeCall_4 _ (by simpa using q)
    · exact typeCall_6 _ (by simpa using q)
    · exact typeCall_8 _ (by simpa using q)
  have hcn : checkBuiltinCall "zip.__new__" ⟨.type "zip" :: ls.map Value.ref, []⟩ = pure () := by
    rcases hn with q | q | q
    · exact newCall_4 _ (by simpa using q)
    · exact newCall_6 _ (by simpa using q)
    · exact newCall_8 _ (by simpa using q)
  have hin : ∀ obj, argsOk "object.__init__" ⟨obj :: ls.map Value.ref, []⟩ := by
    intro obj
    rcases hn with q | q | q
    · exact init_4 _ _ (by simpa using q)
    · exact init_6 _ _ (by simpa using q)
    · exact init_8 _ _ (by simpa using q)
  refine callType_newIn F.called_zip (by decide) hct hcn hin F.entry_zip_new ((zip_new_N ls (by omega)).inModel prog w) ⟨hl, fun h' hz hk => ?_⟩
  exact ⟨by obtain ⟨x0, f, _, q⟩ := hz.z; exact ⟨_, q, rfl⟩, h h' hz hk⟩
theorem pyNext_item {n0 : Nat} {ls : List Addr} {us : List Value} {i : Nat} {Q : Option Value → Shared → Prop} (hne : ls ≠ []) (hsz : ls.length ≤ 1000000) (st : ZS n0 ls i s.heap) (hl : us.length = ls.length) (low : ∀ l ∈ ls, (l : Nat) < n0)
    (hi : Has s.heap ls i us)
    (hQ : ∀ h', ZS n0 ls (i + 1) h' → h'.get? s.heap.objs.size = some { cls := .type "tuple", data := .seq us.toArray } → h'.objs.size = s.heap.objs.size + 1 →
      (∀ c : Nat, Out n0 ls.length c → ∀ o, s.heap.get? c = some o → h'.get? c = some o) → Q (some (.ref s.heap.objs.size)) { s with heap := h' }) :
    wpAny (model prog w) A (pyNext (.ref (n0 + ls.length + 2))) Q E s := by
  have hT : s.TypeIs (.ref (n0 + ls.length + 2)) "zip" := by obtain ⟨x0, f, _, q⟩ := st.z; exact ⟨_, q, rfl⟩
  unfold pyNext
  exact wpAny_bind (wpAny_attempt (wpAny_callSpecial?_slot (name := Str.ofString "__next__") hT F.slot_zip_next
    (wpAny_call_entry F.slot_zip_next hT F.entry_zip_next
      (next_item hne hsz st hl low hi fun h' a1 a2 a3 a4 => wpAny_pure (hQ h' a1 a2 a3 a4)) (F.args_zip_next_1 _))))
theorem pyNext_end {n0 : Nat} {ls : List Addr} {i : Nat} {Q : Option Value → Shared → Prop} (hh : A.handled = none) (hsz : ls.length ≤ 1000000) (st : ZS n0 ls i s.heap) (low : ∀ l ∈ ls, (l : Nat) < n0)
    (hls : ∀ (j : Nat) (l : Addr), ls[j]? = some l → ∃ xs : Array Value, s.heap.IsList l xs) (hend : ∃ (j : Nat) (l : Addr), ls[j]? = some l ∧ ∀ xs : Array Value, s.heap.IsList l xs → xs[i]? = none)
    (hQ : ∀ h', (∀ c : Nat, Out n0 ls.length c → ∀ o, s.heap.get? c = some o → h'.get? c = some o) → Q none { s with heap := h' }) :
    wpAny (model prog w) A (pyNext (.ref (n0 + ls.length + 2))) Q E s := by
  have hT : s.TypeIs (.ref (n0 + ls.length + 2)) "zip" := by obtain ⟨x0, f, _, q⟩ := st.z; exact ⟨_, q, rfl⟩
  unfold pyNext
  refine wpAny_bind (wpAny_attempt (wpAny_callSpecial?_slot (name := Str.ofString "__next__") hT F.slot_zip_next
    (wpAny_call_entry F.slot_zip_next hT F.entry_zip_next (next_end hh hsz st low hls hend fun h' e hk he => ?_) (F.args_zip_next_1 _))))
  obtain ⟨o, ho, hc⟩ := he
  refine wpAny_bind (wpAny_isInstance (T := "StopIteration") (b := true) ⟨o, ho, hc⟩ isSubtype_stop ?_)
  exact wpAny_pure (hQ _ hk)
/-- the step ahead of the store: the zip stays one -/
theorem go_zip {n0 : Nat} {ls : List Addr} {i : Nat} {tg : Expr} {T : Addr} {Q : Unit → Shared → Prop} (st : ZS n0 ls i s.heap) (hQ : ∀ h', ZS n0 ls i h' → Heap.SameBut (n0 + ls.length + 2) s.heap h' → Q () { s with heap := h' }) :
    wpAny (model prog w) A (letOwnedTupleGo tg (.ref (n0 + ls.length + 2)) (.ref T)) Q E s := by
  have same : Q () s := hQ s.heap st (Heap.SameBut.refl _ _)
  obtain ⟨⟨x0, f, hx0, hz⟩, hTI, hTO, hits⟩ := st
  unfold letOwnedTupleGo
  cases tg <;> first
    | exact wpAny_pure same
    | (refine wpAny_bind (wpAny_load hz ?_)
       show wpAny _ _ (if (["enumerate", "zip", "dict_itemiterator", "dict_reverseitemiterator", "odict_iterator", "itertools.zip_longest", "itertools.pairwise"].contains "zip" &&
         (#[x0, .bool f, .bool false, .ref (n0 + ls.length), .ref (n0 + ls.length + 1)] : Array Value)[0]? == some (rawInt T)) = true then _ else _) Q E s
       split
       · refine wpAny_bind (wpAny_rule ?_)
         show wpAny _ _ (setField (.ref (n0 + ls.length + 2)) 0 .none) Q E s
         refine wpAny_setField_rec hz (by simp) fun h' hz' hs' => hQ h' ⟨⟨.none, f, .inl rfl, hz'⟩, ?_, ?_, fun j l hj => ?_⟩ hs'
         · rw [hs'.2 _ (nn (by omega))]; exact hTI
         · obtain ⟨vs, hvl, hTO⟩ := hTO
           exact ⟨vs, hvl, by rw [hs'.2 _ (nn (by omega))]; exact hTO⟩
         · have hjl : j < ls.length := (List.getElem?_eq_some_iff.mp hj).1
           exact iter_of (hits j l hj) (hs'.2 _ (nn (by omega)))
       · exact wpAny_pure same)
end
/-! ### the turn -/
/-- the lists at ls as they stand at each turn, their items in a new tuple -/
def ItzN (K : PySem.W.Frag) (ls : List Addr) : It :=
  ⟨fun i H => ls ≠ [] ∧ ∃ us : List V, us.length = ls.length ∧ ∀ (j : Nat) (l : Addr) (u : V), ls[j]? = some l → us[j]? = some u → ∃ xs : List V, SqL K H l xs ∧ xs[i]? = some u,
    fun i H v H' => ∃ T us, v = .ref T ∧ H T = none ∧ H' = upd H T (.tup us) ∧ us.length = ls.length ∧ ∀ (j : Nat) (l : Addr), ls[j]? = some l → ∀ xs, SqL K H l xs → xs[i]? = us[j]?,
    fun i H => (∀ l ∈ ls, ∃ xs : List V, SqL K H l xs) ∧ ∃ l ∈ ls, ∃ xs : List V, SqL K H l xs ∧ xs.length ≤ i⟩
theorem has_vals {X : Cx} {pins : List (Addr × Obj)} {σ : L2.St} {H : Hp} {s : Shared} {i : Nat} (I : Inv X pins σ H s) : ∀ (ls : List Addr) (us : List V), us.length = ls.length → (∀ (j : Nat) (l : Addr) (u : V), ls[j]? = some l → us[j]? = some u → ∃ xs : List V, SqL X.K H l xs ∧ xs[i]? = some u) →
    ∃ ws : List Value, Vals us ws ∧ Has s.heap ls i ws
  | [], [], _, _ => ⟨[], .nil, fun j l u h => by simp at h⟩
  | [], u :: us, h, _ => by simp at h
  | l :: ls, [], h, _ => by simp at h
  | l :: ls, u :: us, hl, h => by
    obtain ⟨ws, hv, hh⟩ := has_vals I ls us (by simpa using hl) fun j l' u' h1 h2 => h (j + 1) l' u' (by simpa using h1) (by simpa using h2)
    obtain ⟨xs, q, hx⟩ := h 0 l u rfl rfl
    obtain ⟨its, rv, p, _⟩ := I.list q
    obtain ⟨w1, hw, rw1⟩ := rv.get hx
    refine ⟨w1 :: ws, .cons rw1 hv, fun j l' u' h1 h2 => ?_⟩
    cases j with
    | zero =>
      simp at h1 h2
      subst h1 h2
      exact ⟨_, p.isList, by simpa using hw⟩
    | succ j => exact hh j l' u' (by simpa using h1) (by simpa using h2)
def fpN (n0 n : Nat) : List Addr := (List.range (n + 3)).map (n0 + ·)
theorem mem_fpN {n0 n c : Nat} : c ∈ fpN n0 n ↔ ¬ Out n0 n c := by
  unfold fpN Out
  simp only [List.mem_map, List.mem_range]
  constructor
  · rintro ⟨j, hj, rfl⟩; omega
  · intro h; exact ⟨c - n0, by omega, by omega⟩
theorem turn_zipN {P : Program} {w : World} {K : PySem.W.Frag} {tg : Expr} {n0 : Nat} {ls : List Addr} (hsz : ls.length ≤ 1000000) (low : ∀ l ∈ ls, (l : Nat) < n0) :
    Turn P w K tg (ItzN K ls) (fpN n0 ls.length) (n0 + ls.length + 2 : Nat) (fun i h => ZS n0 ls i h) where
  mem := mem_fpN.mpr (by unfold Out; omega)
  obj := fun i h st c0 hc => by
    obtain ⟨c, rfl⟩ : ∃ c : Nat, c = c0 := ⟨c0, rfl⟩
    have hc := mem_fpN.mp hc
    obtain ⟨⟨x0, f, hx0, hz⟩, hTI, ⟨vs, hvl, hTO⟩, hits⟩ := st
    have h4 : (c : Nat) = n0 + ls.length + 2 ∨ (c : Nat) = n0 + ls.length ∨ (c : Nat) = n0 + ls.length + 1 ∨ ∃ j, j < ls.length ∧ (c : Nat) = n0 + j := by
      unfold Out at hc
      by_cases h1 : (c : Nat) < n0 + ls.length
      · exact .inr (.inr (.inr ⟨(c : Nat) - n0, by omega, by omega⟩))
      · omega
    rcases h4 with rfl | rfl | rfl | ⟨j, hj, rfl⟩
    · exact ⟨_, hz, fun v q => nomatch q⟩
    · exact ⟨_, hTI, fun v q => nomatch q⟩
    · exact ⟨_, hTO, fun v q => nomatch q⟩
    · obtain ⟨o1, e1, _, d1⟩ := hits j ls[j] (List.getElem?_eq_getElem hj)
      exact ⟨o1, e1, fun v q => by rw [d1] at q; cases q⟩
  keep := fun i h h' st k => by
    obtain ⟨⟨x0, f, hx0, hz⟩, hTI, ⟨vs, hvl, hTO⟩, hits⟩ := st
    refine ⟨⟨x0, f, hx0, k _ (mem_fpN.mpr (by unfold Out; omega)) _ hz⟩, k _ (mem_fpN.mpr (by unfold Out; omega)) _ hTI, ⟨vs, hvl, k _ (mem_fpN.mpr (by unfold Out; omega)) _ hTO⟩, fun j l hj => ?_⟩
    have hjl : j < ls.length := (List.getElem?_eq_some_iff.mp hj).1
    exact (hits j l hj).at fun o q => k _ (mem_fpN.mpr (by unfold Out; omega)) o q
  item := by
    intro X hP hw hK hc i pins s σ H E I hf st hg
    subst hP hw hK
    obtain ⟨hne, us, hul, hus⟩ := hg
    obtain ⟨ws, rws, has⟩ := has_vals I ls us hul hus
    have hwl : ws.length = ls.length := by rw [← rws.length]; exact hul
    have hb : s.heap.objs.size > n0 + ls.length + 2 := by obtain ⟨x0, f, _, q⟩ := st.z; exact Heap.lt_size q
    refine pyNext_item hne hsz st hwl low has fun h' st' hT hsz' hk => ?_
    refine ⟨_, rfl, go_zip (s := { s with heap := h' }) st' fun h'' st'' sb => ?_⟩
    have hT2 : h''.get? s.heap.objs.size = some { cls := .type "tuple", data := .seq ws.toArray } := (sb.2 _ (nn (by omega))).trans hT
    have new : ObjOk X.prog X.w (upd H s.heap.objs.size (.tup us)) h'' s.heap.objs.size (.tup us) :=
      ⟨by rw [hul]; unfold sizeLine; omega, ws, rws, ⟨_, hT2, rfl, _, rfl⟩⟩
    have I1 : Inv X pins σ (upd H s.heap.objs.size (.tup us)) { s with heap := h'' } :=
      I.turnedNew (t' := s.toks) (ch := fpN n0 ls.length) (fun c0 o hb' q => by
        obtain ⟨c, rfl⟩ : ∃ c : Nat, c = c0 := ⟨c0, rfl⟩
        have hc' : Out n0 ls.length c := Classical.byContradiction fun z => hb' (mem_fpN.mpr z)
        have hc2 := hc'
        unfold Out at hc2
        exact (sb.2 c (nn (by omega))).trans (hk c hc' o q)) hf (Nat.le_refl _) new
    refine ⟨.ref s.heap.objs.size, _, I1, rfl, ⟨_, us, rfl, I.hok.fresh (Nat.le_refl _), rfl, hul, fun j l hj xs hq => ?_⟩, st'', fun c0 hcm => ?_⟩
    · have hjl : j < ls.length := (List.getElem?_eq_some_iff.mp hj).1
      obtain ⟨u, hu⟩ : ∃ u, us[j]? = some u := ⟨_, List.getElem?_eq_getElem (by omega)⟩
      obtain ⟨ys, q', hy⟩ := hus j l u hj hu
      rw [I.list_inj hq q', hy, hu]
    · obtain ⟨c, rfl⟩ : ∃ c : Nat, c = c0 := ⟨c0, rfl⟩
      have hc := mem_fpN.mp hcm
      have hlt : (c : Nat) < s.heap.objs.size := by unfold Out at hc; omega
      rw [upd_ne (Nat.ne_of_lt hlt)]
      exact (hf c hcm).1
  done := by
    intro X hP hw hK hc i pins s σ H E I hf st hg
    subst hP hw hK
    obtain ⟨hall, l0, hl0, xs0, q0, hle⟩ := hg
    refine pyNext_end (I.ok.hd hc) hsz st low (fun j l hj => ?_) ?_ fun h' hk => ⟨rfl, I.turnedL (t' := s.toks) (ch := fpN n0 ls.length) (fun c o hb' q => hk c (Classical.byContradiction fun z => hb' (mem_fpN.mpr z)) o q) hf⟩
    · obtain ⟨xs, q⟩ := hall l (List.mem_of_getElem? hj)
      obtain ⟨its, rv, p, _⟩ := I.list q
      exact ⟨_, p.isList⟩
    · obtain ⟨j, hj⟩ := List.getElem?_of_mem hl0
      refine ⟨j, l0, hj, fun xs hxs => ?_⟩
      obtain ⟨its, rv, p, _⟩ := I.list q0
      have l1 := rv.length
      have e : xs = its.toArray := by
        obtain ⟨o1, h1, c1, n1, d1⟩ := hxs
        obtain ⟨o2, h2, c2, n2, d2⟩ := p.isList
        rw [h1] at h2
        cases h2
        rw [d1] at d2
        cases d2
        rfl
      subst e
      simp
      omega
  self := fun A i s Q E st h => by
    obtain ⟨x0, f, _, q⟩ := st.z
    have hT : s.TypeIs (.ref (n0 + ls.length + 2 : Nat)) "zip" := ⟨_, q, rfl⟩
    refine wpAny_pyIter_slot hT F.slot_zip_iter (wpAny_call_entry F.slot_zip_iter hT F.entry_zip_iter ?_ (F.args_zip_iter_1 _))
    show wpAny _ _ (ret (.ref _)) _ _ s
    exact wpAny_pure ⟨_, rfl, "zip", _, hT, F.slot_zip_next.lookup, h⟩
theorem callWith_typeS {M : Model} {A : Around} {E : Value → Shared → Prop} {s : Shared} {pos p : Pos} {T : String} {env : Env} {e : Expr} {Q : Value → Shared → Prop}
    (h : wpAny M A (eval e env) (fun v s₁ => PySem.W.StarOf M A E v (fun vs s₂ => wpAny M A (call (.type T) vs) Q E s₂) s₁) E s) (he : starEach [.Starred e p] env = [(true, eval e env)] := by rfl) :
    wpAny M A (callWith pos (.type T) [] (backTo pos (starEach [.Starred e p] env)) []) Q E s := by
  rw [he]
  have h2 := PySem.W.ks_lone (f := .type T) (pos := pos) (Q := fun a s₂ => wpAny M A (call (.type T) a.pos a.kw) Q E s₂) h
  unfold callWith
  refine wpAny_bind (wpAny_holding (wpAny_mono h2 (fun a s₁ h₁ => wpAny_bind (wpAny_standAt ?_)) fun _ _ x => x))
  refine wpAny_bind (wpAny_pure ?_)
  refine wpAny_bind ?_
  refine wpAny_mono (PySem.wpAny_operating h₁) (fun r s₂ hr => wpAny_bind (wpAny_holding (wpAny_point (wpAny_pure hr)))) fun _ _ x => x
def iZipN (K : PySem.W.Frag) (te : TE) : TI := fun σ H R => te σ H fun v H1 => ∃ (a : Addr) (ls : List Addr), v = V.ref a ∧ SqL K H1 a (ls.map V.ref) ∧ (ls.length = 4 ∨ ls.length = 6 ∨ ls.length = 8) ∧ (∀ l ∈ ls, ∃ xs : List V, SqL K H1 l xs) ∧ R (ItzN K ls) H1
theorem vals_refs : ∀ {ls : List Addr} {us : List Value}, Vals (ls.map V.ref) us → us = ls.map Value.ref
  | [], _, h => by cases h; rfl
  | l :: ls, _, h => by
    cases h with
    | cons a r => rw [vals_refs r]; cases a; rfl
theorem pi_zipN {X : Cx} {K : PySem.W.Frag} {e tg : Expr} {te : TE} {p sp_ pos : Pos} (hg : Gl X "zip") (hm : X.mg "zip" = none) (he : PE X e te) (hK : X.K = K := by rfl) (hst : starEach [.Starred e sp_] X.env = [(true, eval e X.env)] := by rfl) :
    PI X tg (.Call (.Name "zip" p) [.Starred e sp_] [] pos) (iZipN K te) := by
  subst hK
  refine ⟨fun pins s σ H R I h => ?_⟩
  refine Call_ (ld_blt I hg hm PyProof.Rows.boot_zip (callWith_typeS (thn (he.run pins s σ H _ I h) fun v s1 ⟨y, H1, I1, ry, a, ls, ey, hx, hn, hls, q⟩ => ?_) hst))
  subst ey
  obtain rfl : v = Value.ref a := ry
  refine StX.star_any I1 (.inr hx) fun us s2 I2 rv => ?_
  obtain rfl := vals_refs rv
  have hlists : ∀ l ∈ ls, ∃ xs : Array Value, s2.heap.IsList l xs := fun l hl => by
    obtain ⟨xs, q⟩ := hls l hl
    obtain ⟨its, rv, pl, _⟩ := I2.list q
    exact ⟨_, pl.isList⟩
  have hlow : ∀ l ∈ ls, (l : Nat) < s2.heap.objs.size := fun l hl => by
    obtain ⟨xs, q⟩ := hls l hl
    obtain ⟨its, rv, pl, _⟩ := I2.list q
    exact pl.lt
  refine call_zipN hn hlists fun h' hz hk => ?_
  have I3 : Inv X pins σ H1 { s2 with heap := h' } := I2.kept (t' := s2.toks) hk
  have T := turn_zipN (P := X.prog) (w := X.w) (K := X.K) (tg := tg) (n0 := s2.heap.objs.size) (ls := ls) (by omega) hlow
  refine T.self X.A 0 { s2 with heap := h' } _ _ hz ?_
  refine ⟨_, _, _, _, H1, rfl, I3, T, hz, fun b hb => ?_, q⟩
  have hc := mem_fpN.mp hb
  have hle : s2.heap.objs.size ≤ b := by
    obtain ⟨c, rfl⟩ : ∃ c : Nat, c = b := ⟨b, rfl⟩
    unfold Out at hc
    omega
  exact I2.fpOk hle (I2.hok.fresh hle)
end Vz
namespace Vx
open PySem PySem.Spec PyProof.Rows L2
/-- the length of the shortest row -/
def minLen : List (List Int) → Nat
  | [] => 0
  | [x] => x.length
  | x :: r => min x.length (minLen r)
def colOf (xss : List (List Int)) (i : Nat) : List Int := xss.map fun r => itD r (i : Int)
/-- zip(*rows) -/
def zipRows (xss : List (List Int)) : List (List Int) := (List.range (minLen xss)).map (colOf xss)
theorem minLen_le : ∀ {xss : List (List Int)} {xs : List Int}, xs ∈ xss → minLen xss ≤ xs.length
  | [x], xs, h => by
    simp at h
    subst h
    exact Nat.le_refl _
  | x :: y :: r, xs, h => by
    rcases List.mem_cons.mp h with rfl | h
    · exact Nat.min_le_left _ _
    · exact Nat.le_trans (Nat.min_le_right _ _) (minLen_le h)
theorem minLen_at : ∀ {xss : List (List Int)}, xss ≠ [] → ∃ xs ∈ xss, xs.length = minLen xss
  | [x], _ => ⟨x, List.mem_cons_self, rfl⟩
  | x :: y :: r, _ => by
    obtain ⟨z, hz, e⟩ := minLen_at (xss := y :: r) (by simp)
    by_cases h : x.length ≤ minLen (y :: r)
    · exact ⟨x, List.mem_cons_self, by show _ = min _ _; omega⟩
    · exact ⟨z, List.mem_cons_of_mem _ hz, by show _ = min _ _; omega⟩
theorem zipRows_len (xss : List (List Int)) : (zipRows xss).length = minLen xss := by simp [zipRows]
theorem zipRows_get {xss : List (List Int)} {i : Nat} (h : i < minLen xss) : (zipRows xss)[i]? = some (colOf xss i) := by
  simp [zipRows, List.getElem?_range h]
/-- the rows stand at ls -/
def RowsAt (K : PySem.W.Frag) (H : Hp) (ls : List Addr) (xss : List (List Int)) : Prop :=
  ls.length = xss.length ∧ ∀ (j : Nat) (l : Addr) (xs : List Int), ls[j]? = some l → xss[j]? = some xs → SqL K H l (xs.map V.int)
theorem RowsAt.all {K : PySem.W.Frag} {H : Hp} {ls : List Addr} {xss : List (List Int)} (r : RowsAt K H ls xss) : ∀ l ∈ ls, ∃ xs : List V, SqL K H l xs := fun l hl => by
  obtain ⟨j, hj⟩ := List.getElem?_of_mem hl
  have hjl : j < ls.length := (List.getElem?_eq_some_iff.mp hj).1
  have hjx : j < xss.length := by rw [← r.1]; exact hjl
  exact ⟨_, r.2 j l xss[j] hj (List.getElem?_eq_getElem hjx)⟩
theorem walk_zipN {K : PySem.W.Frag} {ls : List Addr} {xss : List (List Int)} (hne : xss ≠ []) :
    Walk (Vz.ItzN K ls) (minLen xss) (fun H => RowsAt K H ls xss) (fun i H v H' => ∃ T, v = .ref T ∧ H T = none ∧ H' = upd H T (.tup ((colOf xss i).map V.int))) := by
  refine ⟨fun i H hi q => ?_, fun H q => ?_, fun i H x H' hi q y => ?_⟩
  · have hl : ls ≠ [] := fun z => hne (by have := q.1; rw [z] at this; exact List.length_eq_zero_iff.mp this.symm)
    refine ⟨hl, (colOf xss i).map V.int, by simp [colOf, q.1], fun j l u h1 h2 => ?_⟩
    have hj : j < xss.length := by rw [← q.1]; exact (List.getElem?_eq_some_iff.mp h1).1
    have hx : xss[j]? = some xss[j] := List.getElem?_eq_getElem hj
    refine ⟨_, q.2 j l _ h1 hx, ?_⟩
    have hlt : i < xss[j].length := Nat.lt_of_lt_of_le hi (minLen_le (List.getElem_mem hj))
    rw [List.getElem?_map] at h2
    unfold colOf at h2
    rw [List.getElem?_map, hx] at h2
    rw [List.getElem?_map]
    simp at h2
    rw [List.getElem?_eq_getElem hlt, ← h2]
    have : itD xss[j] (i : Int) = xss[j][i] := by
      unfold itD
      rw [atI_nat (List.getElem?_eq_getElem hlt)]
      rfl
    simp [this]
  · refine ⟨q.all, ?_⟩
    obtain ⟨xs, hm, e⟩ := minLen_at hne
    obtain ⟨j, hj⟩ := List.getElem?_of_mem hm
    have hjl : j < ls.length := by rw [q.1]; exact (List.getElem?_eq_some_iff.mp hj).1
    exact ⟨ls[j], List.getElem_mem hjl, _, q.2 j _ xs (List.getElem?_eq_getElem hjl) hj, by simp [e]⟩
  · obtain ⟨T, us, rfl, hT, rfl, hul, hus⟩ := y
    refine ⟨T, rfl, hT, ?_⟩
    congr 2
    apply List.ext_getElem?
    intro j
    by_cases hj : j < xss.length
    · have hjl : j < ls.length := by rw [q.1]; exact hj
      have := hus j ls[j] (List.getElem?_eq_getElem hjl) _ (q.2 j _ xss[j] (List.getElem?_eq_getElem hjl) (List.getElem?_eq_getElem hj))
      rw [← this]
      have hlt : i < xss[j].length := Nat.lt_of_lt_of_le hi (minLen_le (List.getElem_mem hj))
      have hh : itD xss[j] (i : Int) = xss[j][i] := by
        unfold itD
        rw [atI_nat (List.getElem?_eq_getElem hlt)]
        rfl
      unfold colOf
      rw [List.getElem?_map, List.getElem?_eq_getElem hlt, List.getElem?_map, List.getElem?_map, List.getElem?_eq_getElem hj]
      simp [hh]
    · rw [List.getElem?_eq_none (by rw [hul, q.1]; omega), List.getElem?_eq_none (by simp [colOf]; omega)]
/-- rows of data that stays -/
theorem rows_rp {K : PySem.W.Frag} {G H : Hp} (e : Same G H) : ∀ {vs : List V} {xss : List (List Int)}, RpAll G vs (xss.map (encL PyData.int)) → ∃ ls, vs = ls.map V.ref ∧ RowsAt K H ls xss
  | _, [], h => by cases h; exact ⟨[], rfl, rfl, fun j l xs h1 _ => by simp at h1⟩
  | _, xs :: r, h => by
    cases h with
    | cons r1 rr =>
      obtain ⟨ls, rfl, h1, h2⟩ := rows_rp (K := K) e rr
      obtain ⟨a, rfl, ha⟩ := rp_ints r1
      refine ⟨a :: ls, rfl, by simp [h1], fun j l ys q1 q2 => ?_⟩
      cases j with
      | zero =>
        simp at q1 q2
        subst q1 q2
        exact SqL.of (e _ _ ha)
      | succ j => exact h2 j l ys (by simpa using q1) (by simpa using q2)
/-- rows of a tree of one's own -/
theorem rows_ow {K : PySem.W.Frag} {G H : Hp} {L : List Addr} {vs : List V} {xss : List (List Int)} (e : Same G H) (w : OwAll G H L vs (xss.map (oL oI))) : ∃ ls, vs = ls.map V.ref ∧ RowsAt K H ls xss :=
  rows_rp (Same.refl H) (w.rpA (encO_L encO_I) e)
/-- the same rows later -/
theorem RowsAt.again {K : PySem.W.Frag} {H : Hp} {ls : List Addr} {xss : List (List Int)} {vs : List V} (h1 : vs = ls.map V.ref) (h2 : ∃ ls', vs = ls'.map V.ref ∧ RowsAt K H ls' xss) : RowsAt K H ls xss := by
  obtain ⟨ls', e, r⟩ := h2
  have : ls' = ls := by
    have q := h1.symm.trans e
    have inj : ∀ {a b : List Addr}, a.map V.ref = b.map V.ref → a = b := by
      intro a
      induction a with
      | nil => intro b h; cases b with | nil => rfl | cons _ _ => cases h
      | cons x r ih => intro b h; cases b with | nil => cases h | cons y s => simp at h; rw [h.1, ih (by simpa using h.2)]
    exact (inj q).symm
  rw [this] at r
  exact r
/-- a comprehension over zip(*rows) -/
theorem lc_zipN {K : PySem.W.Frag} {ls : List Addr} {xss : List (List Int)} {g : TG} {tt : TT} {te : TE} {vs : List Nat} {σ : L2.St} {H1 : Hp} {D : Addr} {Qd : Hp → Prop} (hne : xss ≠ []) (Pv : Nat → Hp → Prop) (h0 : Pv 0 (upd H1 D (.lst []))) (hq : ∀ i H, i ≤ minLen xss → Pv i H → RowsAt K H ls xss)
    (hs : ∀ (i : Nat) (T : Addr) (H : Hp), i < minLen xss → H T = none → Pv i H → g (.ref T) (wipe σ vs) (upd H T (.tup ((colOf xss i).map V.int))) fun σ2 H2 => wipe σ2 vs = wipe σ vs ∧ tt σ2 H2 fun b H3 =>
      if b = true then te σ2 H3 fun y H4 => ∃ acc, H4 D = some (.lst acc) ∧ acc.length < sizeLine ∧ Pv (i + 1) (upd H4 D (.lst (acc ++ [y]))) else Pv (i + 1) H3) (hd : ∀ H, Pv (minLen xss) H → Qd H) :
    ∃ W : Nat → Nat → Hp → Prop, (∃ m, W 0 m (upd H1 D (.lst []))) ∧ ∀ i m H, W i m H →
      ((Vz.ItzN K ls).stop i H ∧ Qd H) ∨ ((Vz.ItzN K ls).go i H ∧ ∃ Nx : Hp → Prop, (∀ H', Nx H' → ∃ m', m' < m ∧ W (i + 1) m' H') ∧ ∀ x H', (Vz.ItzN K ls).yld i H x H' → g x (wipe σ vs) H' fun σ2 H2 => wipe σ2 vs = wipe σ vs ∧ tt σ2 H2 fun b H3 =>
        if b = true then te σ2 H3 fun y H4 => ∃ acc, H4 D = some (.lst acc) ∧ acc.length < sizeLine ∧ Nx (upd H4 D (.lst (acc ++ [y]))) else Nx H3) := by
  refine lc_it (walk_zipN hne) Pv h0 hq (fun i x H H' hi p y => ?_) hd
  obtain ⟨T, rfl, hT, rfl⟩ := y
  exact hs i T H hi hT p
end Vx
/-! # lists stored into trees -/
namespace Vx
open PySem PySem.Spec PyProof.Rows L2
section
variable {G H I : Hp} {α : Type} {f : α → Dt} {L : List Addr} {vs : List V} {xs : List α}
theorem OwAll.set {L1 : List Addr} {v : V} {d : Dt} (h : Ow G H L1 v d) : ∀ {L : List Addr} {vs : List V} {ds : List Dt} (i : Nat), i < ds.length → OwAll G H L vs ds → (∀ b ∈ L1, b ∉ L) → ∃ L', (∀ b ∈ L', b ∈ L ++ L1) ∧ OwAll G H L' (vs.set i v) (ds.set i d)
  | _, _, _, _, hi, .nil, _ => absurd hi (Nat.not_lt_zero _)
  | _, _, _, 0, _, .cons (L1 := La) (L2 := Lb) a r n, nf => by
    refine ⟨L1 ++ Lb, fun b hb => ?_, .cons h r fun b hb q => nf b hb (List.mem_append_right _ q)⟩
    rcases List.mem_append.mp hb with q | q
    · exact List.mem_append_right _ q
    · exact List.mem_append_left _ (List.mem_append_right _ q)
  | _, _, _, i + 1, hi, .cons (L1 := La) (L2 := Lb) a r n, nf => by
    obtain ⟨L', s, w⟩ := OwAll.set h i (Nat.lt_of_succ_lt_succ hi) r fun b hb q => nf b hb (List.mem_append_right _ q)
    refine ⟨La ++ L', fun b hb => ?_, .cons a w fun b hb q => ?_⟩
    · rcases List.mem_append.mp hb with q | q
      · exact List.mem_append_left _ (List.mem_append_left _ q)
      · rcases List.mem_append.mp (s b q) with z | z
        · exact List.mem_append_left _ (List.mem_append_right _ z)
        · exact List.mem_append_right _ z
    · rcases List.mem_append.mp (s b q) with z | z
      · exact n b hb z
      · exact nf b z (List.mem_append_left _ hb)
theorem ixN_len {k : Int} (e : vs.length = xs.length) (h : -(xs.length : Int) ≤ k ∧ k < xs.length) : ixN vs.length k = some ((ixN vs.length k).getD 0) := by
  rw [e]
  obtain ⟨j, hj, _⟩ := ixN_some h
  rw [hj]
  rfl
theorem OwAll.setM {k : Int} {L1 : List Addr} {v : V} {y : α} (w : OwAll G H L vs (xs.map f)) (h : -(xs.length : Int) ≤ k ∧ k < xs.length) (ow : Ow G H L1 v (f y)) (n : ∀ b ∈ L1, b ∉ L) :
    ∃ L', (∀ b ∈ L', b ∈ L ++ L1) ∧ OwAll G H L' (vs.set ((ixN vs.length k).getD 0) v) ((setL xs k y).map f) := by
  obtain ⟨j, e, hj⟩ := ixN_some h
  obtain ⟨L', s, z⟩ := OwAll.set ow j (by simpa using hj) w n
  refine ⟨L', s, ?_⟩
  unfold setL
  rw [w.lenM, e, List.map_set]
  exact z
end
theorem ne_of_len {α : Type} {xs : List α} (h : xs.length = 4 ∨ xs.length = 6 ∨ xs.length = 8) : xs ≠ [] := by
  rintro rfl
  simp at h
end Vx
namespace Vx
open PySem PySem.Spec PyProof.Rows L2
/-! ### written dicts of ints -/
inductive EI : List (Int × Int) → List DictEntry → Prop
  | nil : EI [] []
  | cons {k v : Int} {t u : Tok} {r : List (Int × Int)} {es : List DictEntry} (h : EI r es) : EI ((k, v) :: r) (⟨hashInt k, .int k t, .int v u⟩ :: es)
def lookI : List (Int × Int) → Int → Option Int
  | [], _ => none
  | (k, v) :: r, i => if i = k then some v else lookI r i
def KDI (K : PySem.W.Frag) (a : Addr) (kvs : List (Int × Int)) : Prop :=
  ∃ es n, K.lookup a = some ⟨.type "dict", none, .dict es n, #[]⟩ ∧ (a == sysModules) = false ∧ EI kvs es.toList
theorem lookI_mem {kvs : List (Int × Int)} {i : Int} : (lookI kvs i).isSome = decide (i ∈ kvs.map (·.1)) := by
  induction kvs with
  | nil => rfl
  | cons p r ih =>
    obtain ⟨k, v⟩ := p
    unfold lookI
    by_cases q : i = k
    · rw [if_pos q]; simp [q]
    · rw [if_neg q, ih]; simp [q]
theorem EI.find {i : Int} : ∀ {kvs : List (Int × Int)} {es : List DictEntry}, EI kvs es → match lookI kvs i with
    | some v => ∃ u, (es.find? fun e => keyIs (.inl i) e.key).map (·.val) = some (.int v u)
    | none => (es.find? fun e => keyIs (.inl i) e.key).map (·.val) = none
  | _, _, .nil => rfl
  | _, _, .cons (k := k) (v := v) (t := t) (u := u) (r := r) (es := es) h => by
    have ih := EI.find (i := i) h
    unfold lookI
    by_cases q : i = k
    · subst q
      rw [if_pos rfl]
      refine ⟨u, ?_⟩
      rw [List.find?_cons_of_pos (by exact keyIs_int i t)]
      rfl
    · rw [if_neg q]
      have e : ¬ (keyIs (.inl i) (Value.int k t) = true) := by
        intro z
        obtain ⟨t', e'⟩ := Value.isInt_shape (k := i) (v := Value.int k t) z
        injection e' with e1 _
        exact q e1.symm
      rw [List.find?_cons_of_neg (by exact e)]
      exact ih
theorem EI.keys {P : Program} {w : World} : ∀ {kvs : List (Int × Int)} {es : List DictEntry}, EI kvs es → ∀ e ∈ es, ∃ k, (mixKind P w).is k e.key = true ∧ e.hash = (mixKind P w).hash k
  | _, _, .nil, e, he => nomatch he
  | _, _, .cons (k := k) (t := t) h, e, he => by
    rcases List.mem_cons.mp he with rfl | he
    · exact ⟨.inl k, keyIs_int k t, rfl⟩
    · exact EI.keys h e he
section
variable {X : Cx} {K : PySem.W.Frag}
theorem KDI.map {d : Addr} {kvs : List (Int × Int)} {pins : List (Addr × Obj)} {σ : L2.St} {H : Hp} {s : Shared} (D : KDI X.K d kvs) (I : Inv X pins σ H s) : (d == sysModules) = false ∧ ∃ f, s.heap.MapOf (mixKind X.prog X.w) d f ∧ ∀ i, match lookI kvs i with
    | some v => ∃ u, f (.inl i) = some (.int v u)
    | none => f (.inl i) = none := by
  obtain ⟨es, n, hl, hd, he⟩ := D
  refine ⟨hd, fun k => findBy keyIs es k, ⟨_, es, n, I.kIn _ _ hl, ⟨rfl, rfl, rfl⟩, rfl, fun e q => EI.keys he e (Array.mem_toList_iff.mpr q), fun _ => rfl⟩, fun i => ?_⟩
  have := EI.find (i := i) he
  have e : findBy keyIs es (.inl i) = (es.toList.find? fun e => keyIs (.inl i) e.key).map (·.val) := by
    obtain ⟨l⟩ := es
    unfold findBy
    rw [List.find?_toArray]
  show match lookI kvs i with
    | some v => ∃ u, findBy keyIs es (.inl i) = some (.int v u)
    | none => findBy keyIs es (.inl i) = none
  rw [e]
  exact this
def rInDI (K : PySem.W.Frag) : R2 := fun x y H Q => ∃ (i : Int) (d : Addr) (kvs : List (Int × Int)) (ks : List Int), x = .int i ∧ y = .ref d ∧ KDI K d kvs ∧ ks = kvs.map (·.1) ∧ Q (.bl (decide (i ∈ ks))) H
def rNotInDI (K : PySem.W.Frag) : R2 := fun x y H Q => ∃ (i : Int) (d : Addr) (kvs : List (Int × Int)) (ks : List Int), x = .int i ∧ y = .ref d ∧ KDI K d kvs ∧ ks = kvs.map (·.1) ∧ Q (.bl (!decide (i ∈ ks))) H
def rIxDI (K : PySem.W.Frag) : R2 := fun x y H Q => ∃ (d : Addr) (i v : Int) (kvs : List (Int × Int)), x = .ref d ∧ y = .int i ∧ KDI K d kvs ∧ lookI kvs i = some v ∧ Q (.int v) H
theorem op_inDI (hK : X.K = K := by rfl) : OpR X (compareOp .In) (rInDI K) := by
  subst hK
  intro pins s σ H x y v u Q I rx ry h
  obtain ⟨i, d, kvs, ks, rfl, rfl, D, rfl, q⟩ := h
  rw [← lookI_mem] at q
  obtain ⟨t, rfl⟩ := rx
  cases ry
  obtain ⟨hd, f, hm, hf⟩ := D.map I
  refine wpAny_in_of (knd := mixKind X.prog X.w) (kV_is (k := .inl i) ⟨t, rfl⟩) hd hm ?_
  have e : (f (.inl i)).isSome = (lookI kvs i).isSome := by
    have := hf i
    split at this
    · next v hv => obtain ⟨u, hu⟩ := this; rw [hu, hv]; rfl
    · next hv => rw [this, hv]; rfl
  rw [e]
  exact ⟨.bl (lookI kvs i).isSome, H, I.tok _, rfl, q⟩
theorem op_notInDI (hK : X.K = K := by rfl) : OpR X (compareOp .NotIn) (rNotInDI K) := by
  subst hK
  intro pins s σ H x y v u Q I rx ry h
  obtain ⟨i, d, kvs, ks, rfl, rfl, D, rfl, q⟩ := h
  rw [← lookI_mem] at q
  obtain ⟨t, rfl⟩ := rx
  cases ry
  obtain ⟨hd, f, hm, hf⟩ := D.map I
  refine wpAny_notIn_of (knd := mixKind X.prog X.w) (kV_is (k := .inl i) ⟨t, rfl⟩) hd hm ?_
  have e : (f (.inl i)).isSome = (lookI kvs i).isSome := by
    have := hf i
    split at this
    · next v hv => obtain ⟨u, hu⟩ := this; rw [hu, hv]; rfl
    · next hv => rw [this, hv]; rfl
  rw [e]
  exact ⟨.bl (!(lookI kvs i).isSome), H, I.tok _, rfl, q⟩
theorem ix_DI (hK : X.K = K := by rfl) : IxR X (rIxDI K) := by
  subst hK
  intro value slice pins s σ H x y v u Q I rx ry h hs
  obtain ⟨p, i, r, kvs, rfl, rfl, D, e, q⟩ := h
  obtain rfl : v = Value.ref p := rx
  obtain ⟨t, rfl⟩ := ry
  obtain ⟨hd, f, hm, hf⟩ := D.map I
  have := hf i
  rw [e] at this
  obtain ⟨u, hu⟩ := this
  exact tail_any hm.typeIs slot_dict_getitem.lookup (wpAny_getItem_of (knd := mixKind X.prog X.w) (kV_is (k := .inl i) ⟨t, rfl⟩) hm hu ⟨.int r, H, I.tok _, ⟨_, rfl⟩, q⟩) hs
end
/-- the value at a key that is there -/
def dictI (kvs : List (Int × Int)) (i : Int) : Int := (lookI kvs i).getD 0
theorem lookI_at {kvs : List (Int × Int)} {i : Int} (h : i ∈ kvs.map (·.1)) : lookI kvs i = some (dictI kvs i) := by
  have := lookI_mem (kvs := kvs) (i := i)
  rw [decide_eq_true h] at this
  unfold dictI
  cases e : lookI kvs i with
  | none => rw [e] at this; cases this
  | some v => rfl
/-! ### walks over two lists, over numbered items, backwards -/
theorem pi_enumK {X : Cx} {K : PySem.W.Frag} {e : Expr} {ta : TA} {p pos tpos : Pos} {elts : List Expr} {kk : Nat} (hg : Gl X "enumerate") (hm : X.mg "enumerate" = none) (ha : PA X [e] ta) (hK : X.K = K := by rfl) (hs : starEach [e] X.env = [(false, eval e X.env)] := by rfl) :
    PI X (.Tuple elts kk tpos) (.Call (.Name "enumerate" p) [e] [] pos) (iEnum K ta) := hK ▸ pi_enum hg hm ha hs
section
variable {K : PySem.W.Frag} {a b : Addr} {xs ys : List V} {g : TG} {tb : TS} {tt : TT} {te : TE} {D : Ends} {σ : L2.St} {H H1 : Hp} {vs : List Nat} {DD : Addr} {Qd : Hp → Prop}
theorem for_enum (Pv : Nat → L2.St → Hp → Prop) (h0 : Pv 0 σ H) (hq : ∀ i σ H, Pv i σ H → SqL K H a xs)
    (hs : ∀ (i : Nat) (y : V) (T : Addr) (σ : L2.St) (H : Hp), xs[i]? = some y → H T = none → Pv i σ H → g (.ref T) σ (upd H T (.tup [.int (i : Nat), y])) fun σ2 H2 => tb { D with nx := Pv (i + 1), ct := Pv (i + 1), bk := D.nx } σ2 H2) (hd : ∀ σ H, Pv xs.length σ H → D.nx σ H) :
    ∃ W : Nat → Nat → L2.St → Hp → Prop, (∃ m, W 0 m σ H) ∧ ∀ i m σ H, W i m σ H →
      ((Ite K a).stop i H ∧ D.nx σ H) ∨ ((Ite K a).go i H ∧ ∃ N : L2.St → Hp → Prop, (∀ σ' H', N σ' H' → ∃ m', m' < m ∧ W (i + 1) m' σ' H') ∧ ∀ v H', (Ite K a).yld i H v H' → g v σ H' fun σ2 H2 => tb { D with nx := N, ct := N, bk := D.nx } σ2 H2) := by
  refine for_it walk_enum Pv h0 (fun i σ H _ p => hq i σ H p) (fun i x σ H H' hi p y => ?_) hd
  obtain ⟨T, x1, y1, rfl, hT, rfl, h1, h2⟩ := y
  cases h1
  exact hs i y1 T σ H h2 hT p
theorem lc_enum (Pv : Nat → Hp → Prop) (h0 : Pv 0 (upd H1 DD (.lst []))) (hq : ∀ i H, i ≤ xs.length → Pv i H → SqL K H a xs)
    (hs : ∀ (i : Nat) (y : V) (T : Addr) (H : Hp), xs[i]? = some y → H T = none → Pv i H → g (.ref T) (wipe σ vs) (upd H T (.tup [.int (i : Nat), y])) fun σ2 H2 => wipe σ2 vs = wipe σ vs ∧ tt σ2 H2 fun b H3 =>
      if b = true then te σ2 H3 fun y H4 => ∃ acc, H4 DD = some (.lst acc) ∧ acc.length < sizeLine ∧ Pv (i + 1) (upd H4 DD (.lst (acc ++ [y]))) else Pv (i + 1) H3) (hd : ∀ H, Pv xs.length H → Qd H) :
    ∃ W : Nat → Nat → Hp → Prop, (∃ m, W 0 m (upd H1 DD (.lst []))) ∧ ∀ i m H, W i m H →
      ((Ite K a).stop i H ∧ Qd H) ∨ ((Ite K a).go i H ∧ ∃ Nx : Hp → Prop, (∀ H', Nx H' → ∃ m', m' < m ∧ W (i + 1) m' H') ∧ ∀ x H', (Ite K a).yld i H x H' → g x (wipe σ vs) H' fun σ2 H2 => wipe σ2 vs = wipe σ vs ∧ tt σ2 H2 fun b H3 =>
        if b = true then te σ2 H3 fun y H4 => ∃ acc, H4 DD = some (.lst acc) ∧ acc.length < sizeLine ∧ Nx (upd H4 DD (.lst (acc ++ [y]))) else Nx H3) := by
  refine lc_it walk_enum Pv h0 hq (fun i x H H' hi p y => ?_) hd
  obtain ⟨T, x1, y1, rfl, hT, rfl, h1, h2⟩ := y
  cases h1
  exact hs i y1 T H h2 hT p
/-- zip of two lists of any lengths -/
theorem for_zipM (n : Nat) (hn : n = min xs.length ys.length) (Pv : Nat → L2.St → Hp → Prop) (h0 : Pv 0 σ H) (hq : ∀ i σ H, Pv i σ H → SqL K H a xs ∧ SqL K H b ys)
    (hs : ∀ (i : Nat) (x y : V) (T : Addr) (σ : L2.St) (H : Hp), xs[i]? = some x → ys[i]? = some y → H T = none → Pv i σ H → g (.ref T) σ (upd H T (.tup [x, y])) fun σ2 H2 => tb { D with nx := Pv (i + 1), ct := Pv (i + 1), bk := D.nx } σ2 H2) (hd : ∀ σ H, Pv n σ H → D.nx σ H) :
    ∃ W : Nat → Nat → L2.St → Hp → Prop, (∃ m, W 0 m σ H) ∧ ∀ i m σ H, W i m σ H →
      ((Itz K a b).stop i H ∧ D.nx σ H) ∨ ((Itz K a b).go i H ∧ ∃ N : L2.St → Hp → Prop, (∀ σ' H', N σ' H' → ∃ m', m' < m ∧ W (i + 1) m' σ' H') ∧ ∀ v H', (Itz K a b).yld i H v H' → g v σ H' fun σ2 H2 => tb { D with nx := N, ct := N, bk := D.nx } σ2 H2) := by
  refine for_it (walk_zip hn) Pv h0 (fun i σ H _ p => hq i σ H p) (fun i x σ H H' hi p y => ?_) hd
  obtain ⟨T, x1, y1, rfl, hT, rfl, h1, h2⟩ := y
  exact hs i x1 y1 T σ H h1 h2 hT p
theorem lc_zipM (n : Nat) (hn : n = min xs.length ys.length) (Pv : Nat → Hp → Prop) (h0 : Pv 0 (upd H1 DD (.lst []))) (hq : ∀ i H, i ≤ n → Pv i H → SqL K H a xs ∧ SqL K H b ys)
    (hs : ∀ (i : Nat) (x y : V) (T : Addr) (H : Hp), xs[i]? = some x → ys[i]? = some y → H T = none → Pv i H → g (.ref T) (wipe σ vs) (upd H T (.tup [x, y])) fun σ2 H2 => wipe σ2 vs = wipe σ vs ∧ tt σ2 H2 fun b H3 =>
      if b = true then te σ2 H3 fun y H4 => ∃ acc, H4 DD = some (.lst acc) ∧ acc.length < sizeLine ∧ Pv (i + 1) (upd H4 DD (.lst (acc ++ [y]))) else Pv (i + 1) H3) (hd : ∀ H, Pv n H → Qd H) :
    ∃ W : Nat → Nat → Hp → Prop, (∃ m, W 0 m (upd H1 DD (.lst []))) ∧ ∀ i m H, W i m H →
      ((Itz K a b).stop i H ∧ Qd H) ∨ ((Itz K a b).go i H ∧ ∃ Nx : Hp → Prop, (∀ H', Nx H' → ∃ m', m' < m ∧ W (i + 1) m' H') ∧ ∀ x H', (Itz K a b).yld i H x H' → g x (wipe σ vs) H' fun σ2 H2 => wipe σ2 vs = wipe σ vs ∧ tt σ2 H2 fun b H3 =>
        if b = true then te σ2 H3 fun y H4 => ∃ acc, H4 DD = some (.lst acc) ∧ acc.length < sizeLine ∧ Nx (upd H4 DD (.lst (acc ++ [y]))) else Nx H3) := by
  refine lc_it (walk_zip hn) Pv h0 hq (fun i x H H' hi p y => ?_) hd
  obtain ⟨T, x1, y1, rfl, hT, rfl, h1, h2⟩ := y
  exact hs i x1 y1 T H h1 h2 hT p
end
theorem zipM_len {α β : Type} {xs : List α} {ys : List β} : min xs.length ys.length = (xs.zip ys).length := by rw [List.length_zip]
theorem zipM_n {α β : Type} {vs ws : List V} {xs : List α} {ys : List β} (a : vs.length = xs.length) (b : ws.length = ys.length) : min xs.length ys.length = min vs.length ws.length := by rw [a, b]
def rListTK (K : PySem.W.Frag) : List V → Hp → VK → Prop := fun xs H Q => ∃ (p : Addr) (vs : List V), xs = [.ref p] ∧ SqT K H p vs ∧ ∀ l, H l = none → Q (.ref l) (upd H l (.lst vs))
theorem call_listTK {X : Cx} {K : PySem.W.Frag} (hK : X.K = K := by rfl) : CallR X (.type "list") (rListTK K) := by
  subst hK
  intro pins s σ H xs us Q I r h
  obtain ⟨p, vs, rfl, hs, q⟩ := h
  exact call_list_of pins s σ H _ us Q I r ⟨p, _, rfl, Or.inr hs, q⟩
/-- two lists that keep step -/
inductive F2 {α β : Type} (P : α → β → Prop) : List α → List β → Prop
  | nil : F2 P [] []
  | cons {a : α} {b : β} {l : List α} {m : List β} (h : P a b) (t : F2 P l m) : F2 P (a :: l) (b :: m)
theorem F2.get {α β : Type} {P : α → β → Prop} : ∀ {l : List α} {m : List β}, F2 P l m → ∀ (j : Nat), j < l.length → ∃ a b, l[j]? = some a ∧ m[j]? = some b ∧ P a b
  | _, _, .nil, j, h => absurd h (Nat.not_lt_zero _)
  | _, _, .cons h t, 0, _ => ⟨_, _, rfl, rfl, h⟩
  | _, _, .cons h t, j + 1, hj => t.get j (Nat.lt_of_succ_lt_succ hj)
theorem F2.at {α β : Type} [Inhabited α] [Inhabited β] {P : α → β → Prop} {l : List α} {m : List β} (h : F2 P l m) (k : Int) (h0 : 0 ≤ k) (h1 : k < l.length) : P (itD l k) (itD m k) := by
  obtain ⟨j, rfl⟩ : ∃ j : Nat, k = (j : Int) := ⟨k.toNat, by omega⟩
  obtain ⟨a, b, ha, hb, p⟩ := h.get j (by omega)
  have e1 : itD l (j : Int) = a := by unfold itD; rw [atI_nat ha]; rfl
  have e2 : itD m (j : Int) = b := by unfold itD; rw [atI_nat hb]; rfl
  rw [e1, e2]
  exact p
theorem SqT.cast {K : PySem.W.Frag} {H : Hp} {a : Addr} {xs ys : List V} (h : SqT K H a xs) (e : xs = ys) : SqT K H a ys := e ▸ h
/-- enumerate(xs) -/
def enumL {α : Type} (xs : List α) : List (Int × α) := (rng 0 xs.length).zip xs
theorem enumL_len {α : Type} (xs : List α) : (enumL xs).length = xs.length := by
  unfold enumL
  rw [List.length_zip, rng_len, Nat.min_self]
theorem enumL_get {α : Type} {xs : List α} {i : Nat} {x : α} (h : xs[i]? = some x) : (enumL xs)[i]? = some ((i : Int), x) := by
  have hl : i < xs.length := (List.getElem?_eq_some_iff.mp h).1
  unfold enumL
  rw [List.getElem?_zip_eq_some]
  refine ⟨?_, h⟩
  have := rng_get (lo := 0) hl
  rw [this]
  congr 1
  omega
end Vx
namespace Vx
open PySem PySem.Spec PyProof.Rows L2
theorem wipe_get : ∀ (σ : L2.St) (vs : List Nat) (j : Nat), (wipe σ vs)[j]? = if j ∈ vs ∧ j < σ.length then some none else σ[j]?
  | σ, [], j => by simp [wipe]
  | σ, v :: vs, j => by
    unfold wipe
    by_cases e : v = j
    · subst e
      by_cases h : v < σ.length
      · rw [List.getElem?_set_self (by rw [wipe_length]; exact h), if_pos ⟨List.mem_cons_self, h⟩]
      · rw [if_neg (fun z => h z.2), List.getElem?_eq_none (by rw [List.length_set, wipe_length]; omega), List.getElem?_eq_none (by omega)]
    · rw [List.getElem?_set_ne e, wipe_get σ vs j]
      have : (j ∈ v :: vs ∧ j < σ.length) ↔ (j ∈ vs ∧ j < σ.length) := by
        constructor
        · rintro ⟨h1, h2⟩
          rcases List.mem_cons.mp h1 with rfl | h1
          · exact absurd rfl e
          · exact ⟨h1, h2⟩
        · rintro ⟨h1, h2⟩
          exact ⟨List.mem_cons_of_mem _ h1, h2⟩
      by_cases q : j ∈ vs ∧ j < σ.length
      · rw [if_pos q, if_pos (this.mpr q)]
      · rw [if_neg q, if_neg (fun z => q (this.mp z))]
theorem wipe_wipe {σ : L2.St} {vs : List Nat} : wipe (wipe σ vs) vs = wipe σ vs := by
  apply List.ext_getElem?
  intro j
  rw [wipe_get (wipe σ vs), wipe_length]
  by_cases q : j ∈ vs ∧ j < σ.length
  · rw [if_pos q, wipe_get, if_pos q]
  · rw [if_neg q]
theorem wipe_set {σ : L2.St} {vs : List Nat} {v : Nat} {x : Option V} (h : v ∈ vs) : wipe (σ.set v x) vs = wipe σ vs := by
  apply List.ext_getElem?
  intro j
  rw [wipe_get, wipe_get, List.length_set]
  by_cases q : j ∈ vs ∧ j < σ.length
  · rw [if_pos q, if_pos q]
  · rw [if_neg q, if_neg q]
    by_cases e : v = j
    · subst e
      have hl : ¬ v < σ.length := fun z => q ⟨h, z⟩
      rw [List.getElem?_eq_none (by rw [List.length_set]; omega), List.getElem?_eq_none (by omega)]
    · rw [List.getElem?_set_ne e]
end Vx
/-! # fourth part: reckoning with functions that may refuse -/
namespace Vx
open PySem PySem.Spec PyProof.Rows L2
section
variable {α β σ ρ τ : Type}
theorem bind_ok (a : α) (f : α → Rx β) : (Rx.ok a).bind f = f a := rfl
theorem bind_er (e : Nat) (f : α → Rx β) : (Rx.er e : Rx α).bind f = .er e := rfl
theorem grd_pos {p : Prop} {dp : Decidable p} {m : Rx α} (h : p) : grd p m = m := if_pos h
theorem bnd_eq (a : α) (f : α → Rx β) : bnd a f = f a := rfl
theorem noEr_ok (a : α) : noEr (.ok a : Rx α) = .ok a := rfl
theorem tryR_ok {cs : List Nat} (a : α) (f : α → Rx β) (g : Nat → Rx β) : tryR (.ok a) cs f g = f a := rfl
theorem tryR_er {cs : List Nat} {e : Nat} (h : e ∈ cs) (f : α → Rx β) (g : Nat → Rx β) : tryR (.er e) cs f g = g e := if_pos h
theorem aft_go (s : σ) (kr : ρ → Rx τ) (k : σ → Rx τ) : (Lp.go s : Lp σ ρ).aft kr k = k s := rfl
theorem aft_rt (r : ρ) (kr : ρ → Rx τ) (k : σ → Rx τ) : (Lp.rt r : Lp σ ρ).aft kr k = kr r := rfl
/-- gives a value of which P holds -/
def Gv (m : Rx α) (P : α → Prop) : Prop := ∃ v, m = .ok v ∧ P v
theorem Gv.ok {a : α} {P : α → Prop} (h : P a) : Gv (.ok a) P := ⟨a, rfl, h⟩
theorem Gv.of_eq {m : Rx α} {a : α} {P : α → Prop} (e : m = .ok a) (h : P a) : Gv m P := ⟨a, e, h⟩
theorem Gv.bind {m : Rx α} {f : α → Rx β} {P : α → Prop} {Q : β → Prop} (h : Gv m P) (k : ∀ v, P v → Gv (f v) Q) : Gv (m.bind f) Q := by
  obtain ⟨v, rfl, p⟩ := h
  exact k v p
theorem Gv.bind_eq {m : Rx α} {f : α → Rx β} {a : α} {Q : β → Prop} (h : m = .ok a) (k : Gv (f a) Q) : Gv (m.bind f) Q := by
  subst h
  exact k
theorem Gv.grd {p : Prop} {dp : Decidable p} {m : Rx α} {Q : α → Prop} (h : p) (k : Gv m Q) : Gv (Vx.grd p m) Q := by
  rw [grd_pos h]
  exact k
theorem Gv.bnd {a : α} {f : α → Rx β} {Q : β → Prop} (k : ∀ x, x = a → Gv (f x) Q) : Gv (Vx.bnd a f) Q := k a rfl
theorem Gv.ite {p : Prop} {dp : Decidable p} {a b : Rx α} {Q : α → Prop} (h1 : p → Gv a Q) (h2 : ¬ p → Gv b Q) : Gv (if p then a else b) Q := by
  split
  · exact h1 ‹_›
  · exact h2 ‹_›
theorem Gv.pos {p : Prop} {dp : Decidable p} {a b : Rx α} {Q : α → Prop} (h : p) (k : Gv a Q) : Gv (if p then a else b) Q := by rwa [if_pos h]
theorem Gv.neg {p : Prop} {dp : Decidable p} {a b : Rx α} {Q : α → Prop} (h : ¬ p) (k : Gv b Q) : Gv (if p then a else b) Q := by rwa [if_neg h]
theorem Gv.imp {m : Rx α} {P Q : α → Prop} (h : Gv m P) (k : ∀ v, P v → Q v) : Gv m Q := by
  obtain ⟨v, e, p⟩ := h
  exact ⟨v, e, k v p⟩
theorem Gv.noEr {m : Rx α} {P : α → Prop} (h : Gv m P) : Gv (Vx.noEr m) P := by
  obtain ⟨v, rfl, p⟩ := h
  exact ⟨v, rfl, p⟩
theorem Gv.tryOk {m : Rx α} {cs : List Nat} {f : α → Rx β} {g : Nat → Rx β} {P : α → Prop} {Q : β → Prop} (h : Gv m P) (k : ∀ v, P v → Gv (f v) Q) : Gv (tryR m cs f g) Q := by
  obtain ⟨v, rfl, p⟩ := h
  exact k v p
theorem Gv.tryEr {m : Rx α} {cs : List Nat} {e : Nat} {f : α → Rx β} {g : Nat → Rx β} {Q : β → Prop} (h : m = .er e) (hm : e ∈ cs) (k : Gv (g e) Q) : Gv (tryR m cs f g) Q := by
  subst h
  rw [tryR_er hm]
  exact k
theorem Gv.get {m : Rx α} {a : α} (h : Gv m (fun v => v = a)) : m = .ok a := by
  obtain ⟨v, e, rfl⟩ := h
  exact e
theorem Gv.eq {m : Rx α} {P : α → Prop} (h : Gv m P) : ∃ v, m = .ok v ∧ P v := h
/-- a loop that keeps P -/
theorem Gv.forS {P : Nat → σ → Prop} {xs : List α} {s : σ} {f : σ → α → Rx σ} (h0 : P 0 s) (hs : ∀ i x s, xs[i]? = some x → P i s → Gv (f s x) (P (i + 1))) : Gv (Vx.forS xs s f) (P xs.length) := by
  induction xs generalizing s P with
  | nil => exact .ok h0
  | cons x r ih =>
    refine Gv.bind (hs 0 x s rfl h0) fun s' p => ?_
    exact ih (P := fun i => P (i + 1)) p fun i y s hy q => hs (i + 1) y s (by simpa using hy) q
theorem Gv.forR {P : Nat → σ → Prop} {xs : List α} {s : σ} {f : σ → α → Rx (Lp σ ρ)} (h0 : P 0 s) (hs : ∀ i x s, xs[i]? = some x → P i s → Gv (f s x) (fun l => ∃ s', l = .go s' ∧ P (i + 1) s')) : Gv (Vx.forR xs s f) (fun l => ∃ s', l = .go s' ∧ P xs.length s') := by
  induction xs generalizing s P with
  | nil => exact .ok ⟨s, rfl, h0⟩
  | cons x r ih =>
    refine Gv.bind (hs 0 x s rfl h0) ?_
    rintro _ ⟨s', rfl, p⟩
    exact ih (P := fun i => P (i + 1)) p fun i y s hy q => hs (i + 1) y s (by simpa using hy) q
/-- a loop that carries nothing -/
theorem forR_unit {xs : List α} {f : Unit → α → Rx (Lp Unit ρ)} (h : ∀ x ∈ xs, f () x = .ok (.go ())) : Vx.forR xs () f = .ok (.go ()) := by
  induction xs with
  | nil => rfl
  | cons x r ih =>
    show (f () x).bind _ = _
    rw [h x List.mem_cons_self]
    exact ih fun y hy => h y (List.mem_cons_of_mem _ hy)
theorem forS_pure {xs : List α} {s : σ} {f : σ → α → Rx σ} {g : σ → α → σ} (h : ∀ s x, x ∈ xs → f s x = .ok (g s x)) : Vx.forS xs s f = .ok (xs.foldl g s) := by
  induction xs generalizing s with
  | nil => rfl
  | cons x r ih =>
    show (f s x).bind _ = _
    rw [h s x List.mem_cons_self]
    exact ih fun s y hy => h s y (List.mem_cons_of_mem _ hy)
theorem mapA_pure {xs : List α} {acc : List β} {f : α → Rx β} {g : α → β} (h : ∀ x ∈ xs, f x = .ok (g x)) (hl : acc.length + xs.length ≤ 1000000) : mapA xs acc f = .ok (acc ++ xs.map g) := by
  induction xs generalizing acc with
  | nil => simp [mapA]
  | cons x r ih =>
    rw [List.length_cons] at hl
    unfold mapA
    rw [grd_pos (by omega), h x List.mem_cons_self, bind_ok, ih (fun y hy => h y (List.mem_cons_of_mem _ hy)) (by rw [List.length_append, List.length_cons, List.length_nil]; omega)]
    simp
theorem mapA_pure0 {xs : List α} {f : α → Rx β} {g : α → β} (h : ∀ x ∈ xs, f x = .ok (g x)) (hl : xs.length ≤ 1000000) : mapA xs [] f = .ok (xs.map g) := by
  rw [mapA_pure h (by simpa using hl)]
  rfl
theorem mapF_pure {xs : List α} {acc : List β} {f : α → Rx (Option β)} {g : α → Option β} (h : ∀ x ∈ xs, f x = .ok (g x)) (hl : acc.length + xs.length ≤ 1000000) : mapF xs acc f = .ok (acc ++ xs.filterMap g) := by
  induction xs generalizing acc with
  | nil => simp [mapF]
  | cons x r ih =>
    rw [List.length_cons] at hl
    unfold mapF
    rw [grd_pos (by omega), h x List.mem_cons_self, bind_ok]
    cases e : g x with
    | none =>
      show mapF r acc f = _
      rw [ih (fun y hy => h y (List.mem_cons_of_mem _ hy)) (by omega), List.filterMap_cons, e]
    | some z =>
      show mapF r (acc ++ [z]) f = _
      rw [ih (fun y hy => h y (List.mem_cons_of_mem _ hy)) (by rw [List.length_append, List.length_cons, List.length_nil]; omega), List.filterMap_cons, e]
      simp
/-- a while that ends: m falls -/
theorem Gv.whileR {P : σ → Prop} {R : σ → Prop} (m : σ → Nat) {f : σ → Rx (Lp σ ρ)} (hs : ∀ s, P s → Gv (f s) (fun l => (∃ s', l = .go s' ∧ P s' ∧ m s' < m s) ∨ ∃ s', l = .bk s' ∧ R s')) : ∀ {n : Nat} {s : σ}, P s → m s < n → Gv (Vx.whileR n s f) (fun l => ∃ s', l = .go s' ∧ R s') := by
  intro n
  induction n with
  | zero => intro s _ h; exact absurd h (Nat.not_lt_zero _)
  | succ n ih =>
    intro s p h
    refine Gv.bind (hs s p) ?_
    rintro _ (⟨s', rfl, p', l⟩ | ⟨s', rfl, r⟩)
    · exact ih p' (by omega)
    · exact .ok ⟨s', rfl, r⟩
end
theorem rng_mem {lo x : Int} {n : Nat} (h : x ∈ rng lo n) : lo ≤ x ∧ x < lo + n := by
  unfold rng at h
  obtain ⟨j, hj, rfl⟩ := List.mem_map.mp h
  have := List.mem_range.mp hj
  omega
theorem rng_at {lo x : Int} {n i : Nat} (h : (rng lo n)[i]? = some x) : x = lo + i ∧ i < n := by
  have hl := get_len h
  rw [rng_len] at hl
  rw [rng_get hl] at h
  exact ⟨(Option.some.inj h).symm, hl⟩
end Vx
namespace Vx
open PySem PySem.Spec PyProof.Rows L2
def F__law_draws_b1 (free_15 : Bool) (found_33 : (List Int)) (rest_34 : Int) (state_35 : Int) (it38 : Int) : Rx ((List Int) × Int × Int) :=
  (if free_15 = true then (if 1 < rest_34 then grd (0 < (it38 : Int)) <| grd ((found_33).length ≤ 1000000) <| bnd ((found_33) ++ [(rest_34 % it38)]) fun y49 => grd (0 < (it38 : Int) ∧ (it38 : Int) < 2 ^ 128) <| bnd ((rest_34 / it38)) fun rest_51 => .ok ((y49), (rest_51), (state_35)) else bnd ((((state_35 * 48271) + 11) % 2147483647)) fun state_52 => bnd ((((state_52 * 69621) + 7) % 2147483647)) fun state_53 => grd (0 < (it38 : Int)) <| grd ((found_33).length ≤ 1000000) <| bnd ((found_33) ++ [((state_53 / 13) % it38)]) fun y62 => .ok ((y62), (rest_34), (state_53))) else bnd ((((state_35 * 48271) + 11) % 2147483647)) fun state_63 => bnd ((((state_63 * 69621) + 7) % 2147483647)) fun state_64 => grd (0 < (it38 : Int)) <| grd ((found_33).length ≤ 1000000) <| bnd ((found_33) ++ [((state_64 / 13) % it38)]) fun y73 => .ok ((y73), (rest_34), (state_64)))

def F__law_draws_r1 (found_79 : (List Int)) (rest_80 : Int) (state_81 : Int) : Rx (List Int) :=
  .ok (found_79)

def F__law_draws (cell' : Int) (limits' : (List Int)) : Rx (List Int) :=
  bnd ((if cell' < 0 then -cell' else cell')) fun rest_10 => bnd ((rest_10 % 2147483647)) fun state_11 => bnd ((decide (cell' < 0) || decide (((10 : Int) ^ Int.toNat 18) ≤ cell'))) fun free_14 => Rx.bind (forS (limits') ((([] : (List Int))), (rest_10), (state_11)) (fun s x => F__law_draws_b1 (free_14) (s.1) (s.2.1) (s.2.2) x)) fun s => F__law_draws_r1  (s.1) (s.2.1) (s.2.2)

def F__law_plane_c3 (top_161 : Int) (values_162 : (List Int)) (it193 : Int) : Rx Int :=
  grd (-((values_162 : (List Int)).length : Int) ≤ 0 ∧ 0 < ((values_162 : (List Int)).length : Int)) <| grd (0 < ((top_161 + 1) : Int)) <| .ok ((((itD (values_162) (0)) + (7 * it193)) % (top_161 + 1)))

def F__law_plane_c5 (top_230 : Int) (it274 : Int) : Rx Int :=
  grd ((-(2 ^ 64) < (top_230 : Int) ∧ (top_230 : Int) < 2 ^ 64) ∨ (-(2 ^ 64) < ((it274 % 2) : Int) ∧ ((it274 % 2) : Int) < 2 ^ 64)) <| .ok ((top_230 * (it274 % 2)))

def F__law_plane_c6 (width_303 : Int) (values_304 : (List Int)) (it335 : Int) : Rx (List Int) :=
  grd ((-(2 ^ 64) < (it335 : Int) ∧ (it335 : Int) < 2 ^ 64) ∨ (-(2 ^ 64) < (width_303 : Int) ∧ (width_303 : Int) < 2 ^ 64)) <| grd ((-(2 ^ 64) < ((it335 + 1) : Int) ∧ ((it335 + 1) : Int) < 2 ^ 64) ∨ (-(2 ^ 64) < (width_303 : Int) ∧ (width_303 : Int) < 2 ^ 64)) <| .ok (cutL (values_304) (some ((it335 * width_303))) (some (((it335 + 1) * width_303))))

def F__law_plane_k4 (width_222 : Int) (height_223 : Int) (values_224 : (List Int)) : Rx (List (List Int)) :=
  grd (-(2 ^ 62) ≤ height_223 ∧ height_223 < 2 ^ 62) <| Rx.bind (mapA (rng (0) (Int.toNat (height_223))) [] (fun x => noEr (F__law_plane_c6 (width_222) (values_224) x))) fun v305 => .ok (v305)

def F__law_plane_k2 (width_149 : Int) (height_150 : Int) (top_151 : Int) (kind_152 : Int) (values_153 : (List Int)) : Rx (List (List Int)) :=
  Rx.bind (((if (kind_152 : Int) = 2 then Rx.bind (mapA (values_153) [] (fun x => noEr (F__law_plane_c5 (top_151) x))) fun v231 => .ok (v231) else .ok (values_153)) : Rx ((List Int)))) fun s => F__law_plane_k4 (width_149) (height_150) s

def F__law_plane_k1 (width_112 : Int) (height_113 : Int) (top_114 : Int) (kind_115 : Int) (values_116 : (List Int)) : Rx (List (List Int)) :=
  Rx.bind (((if (kind_115 : Int) = 1 then grd ((-(2 ^ 64) < (width_112 : Int) ∧ (width_112 : Int) < 2 ^ 64) ∨ (-(2 ^ 64) < (height_113 : Int) ∧ (height_113 : Int) < 2 ^ 64)) <| grd (-(2 ^ 62) ≤ (width_112 * height_113) ∧ (width_112 * height_113) < 2 ^ 62) <| Rx.bind (mapA (rng (0) (Int.toNat ((width_112 * height_113)))) [] (fun x => noEr (F__law_plane_c3 (top_114) (values_116) x))) fun v163 => .ok (v163) else .ok (values_116)) : Rx ((List Int)))) fun s => F__law_plane_k2 (width_112) (height_113) (top_114) (kind_115) s

def F__law_plane (cell' : Int) (width' : Int) (height' : Int) (top' : Int) : Rx (List (List Int)) :=
  bnd ((cell' % 4)) fun kind_82 => grd ((-(2 ^ 64) < (width' : Int) ∧ (width' : Int) < 2 ^ 64) ∨ (-(2 ^ 64) < (height' : Int) ∧ (height' : Int) < 2 ^ 64)) <| grd (-(2 ^ 63) ≤ ((width' * height') : Int) ∧ ((width' * height') : Int) < 2 ^ 63 ∧ ([(top' + 1)]).length * Int.toNat ((width' * height')) ≤ 1000000) <| Rx.bind (F__law_draws ((cell' / 4)) (repL ([(top' + 1)]) ((width' * height')))) fun v103 => Rx.bind (((if (kind_82 : Int) = 0 then grd (-((v103 : (List Int)).length : Int) ≤ 0 ∧ 0 < ((v103 : (List Int)).length : Int)) <| grd ((-(2 ^ 64) < (width' : Int) ∧ (width' : Int) < 2 ^ 64) ∨ (-(2 ^ 64) < (height' : Int) ∧ (height' : Int) < 2 ^ 64)) <| grd (-(2 ^ 63) ≤ ((width' * height') : Int) ∧ ((width' * height') : Int) < 2 ^ 63 ∧ ([(itD (v103) (0))]).length * Int.toNat ((width' * height')) ≤ 1000000) <| .ok (repL ([(itD (v103) (0))]) ((width' * height'))) else .ok (v103)) : Rx ((List Int)))) fun s => F__law_plane_k1 (width') (height') (top') (kind_82) s

def F__law_cell (script' : (List Int)) (k' : Int) : Rx Int :=
  (if k' < (((script') : (List Int)).length : Int) then grd (-((script' : (List Int)).length : Int) ≤ k' ∧ k' < ((script' : (List Int)).length : Int)) <| .ok ((itD (script') (k'))) else .ok (0))

def F_clip (value' : Int) (low' : Int) (high' : Int) : Rx Int :=
  .ok ((if high' < (if low' > value' then low' else value') then high' else (if low' > value' then low' else value')))

def F__samples_c1 (plane_376 : (List (List Int))) (it405 : Int) : Rx Int :=
  grd (-((plane_376 : (List (List Int))).length : Int) ≤ 0 ∧ 0 < ((plane_376 : (List (List Int))).length : Int)) <| Rx.bind (F_clip it405 0 ((((((itD (plane_376) (0))) : (List Int)).length : Int) - 1))) fun v412 => .ok v412

def F__samples_c2 (plane_432 : (List (List Int))) (it463 : Int) : Rx Int :=
  Rx.bind (F_clip it463 0 (((((plane_432) : (List (List Int))).length : Int) - 1))) fun v464 => .ok v464

def F__samples_c4 (plane_534 : (List (List Int))) (row_535 : Int) (it588 : Int) : Rx Int :=
  grd (-((plane_534 : (List (List Int))).length : Int) ≤ row_535 ∧ row_535 < ((plane_534 : (List (List Int))).length : Int)) <| grd (-(((itD (plane_534) (row_535)) : (List Int)).length : Int) ≤ it588 ∧ it588 < (((itD (plane_534) (row_535)) : (List Int)).length : Int)) <| .ok ((itD ((itD (plane_534) (row_535))) (it588)))

def F__samples_c3 (plane_485 : (List (List Int))) (columns_486 : (List Int)) (it533 : Int) : Rx (List Int) :=
  Rx.bind (mapA (columns_486) [] (fun x => noEr (F__samples_c4 (plane_485) (it533) x))) fun v536 => .ok v536

def F__samples (plane' : (List (List Int))) (x' : Int) (y' : Int) (width' : Int) (height' : Int) : Rx (List (List Int)) :=
  grd (-(2 ^ 62) ≤ (x' : Int) ∧ (x' : Int) < 2 ^ 62 ∧ -(2 ^ 62) ≤ ((x' + width') : Int) ∧ ((x' + width') : Int) < 2 ^ 62) <| Rx.bind (mapA (rng (x') (Int.toNat ((x' + width') - x'))) [] (fun x => noEr (F__samples_c1 (plane') x))) fun v377 => grd (-(2 ^ 62) ≤ (y' : Int) ∧ (y' : Int) < 2 ^ 62 ∧ -(2 ^ 62) ≤ ((y' + height') : Int) ∧ ((y' + height') : Int) < 2 ^ 62) <| Rx.bind (mapA (rng (y') (Int.toNat ((y' + height') - y'))) [] (fun x => noEr (F__samples_c2 (plane') x))) fun v433 => Rx.bind (mapA (v433) [] (fun x => noEr (F__samples_c3 (plane') (v377) x))) fun v487 => .ok (v487)

def F__weighted_c2 (p_678 : Int) (q_679 : Int) (r_680 : Int) (s_681 : Int) (t_682 : Int) (u_683 : Int) (it734 : (List Int)) : Rx Int :=
  grd ((it734).length = 6) <| grd ((-(2 ^ 64) < (p_678 : Int) ∧ (p_678 : Int) < 2 ^ 64) ∨ (-(2 ^ 64) < ((itD (it734) 0) : Int) ∧ ((itD (it734) 0) : Int) < 2 ^ 64)) <| grd ((-(2 ^ 64) < (q_679 : Int) ∧ (q_679 : Int) < 2 ^ 64) ∨ (-(2 ^ 64) < ((itD (it734) 1) : Int) ∧ ((itD (it734) 1) : Int) < 2 ^ 64)) <| grd ((-(2 ^ 64) < (r_680 : Int) ∧ (r_680 : Int) < 2 ^ 64) ∨ (-(2 ^ 64) < ((itD (it734) 2) : Int) ∧ ((itD (it734) 2) : Int) < 2 ^ 64)) <| grd ((-(2 ^ 64) < (s_681 : Int) ∧ (s_681 : Int) < 2 ^ 64) ∨ (-(2 ^ 64) < ((itD (it734) 3) : Int) ∧ ((itD (it734) 3) : Int) < 2 ^ 64)) <| grd ((-(2 ^ 64) < (t_682 : Int) ∧ (t_682 : Int) < 2 ^ 64) ∨ (-(2 ^ 64) < ((itD (it734) 4) : Int) ∧ ((itD (it734) 4) : Int) < 2 ^ 64)) <| grd ((-(2 ^ 64) < (u_683 : Int) ∧ (u_683 : Int) < 2 ^ 64) ∨ (-(2 ^ 64) < ((itD (it734) 5) : Int) ∧ ((itD (it734) 5) : Int) < 2 ^ 64)) <| .ok (((((((p_678 * (itD (it734) 0)) + (q_679 * (itD (it734) 1))) + (r_680 * (itD (it734) 2))) + (s_681 * (itD (it734) 3))) + (t_682 * (itD (it734) 4))) + (u_683 * (itD (it734) 5))))

def F__weighted_k1 (lines_648 : (List (List Int))) (p_649 : Int) (q_650 : Int) (r_651 : Int) (s_652 : Int) (t_653 : Int) (u_654 : Int) : Rx (List Int) :=
  grd ((lines_648 : List (List Int)).length = 4 ∨ (lines_648 : List (List Int)).length = 6 ∨ (lines_648 : List (List Int)).length = 8) <| Rx.bind (mapA (zipRows (lines_648)) [] (fun x => noEr (F__weighted_c2 (p_649) (q_650) (r_651) (s_652) (t_653) (u_654) x))) fun v684 => .ok (v684)

def F__weighted (weights' : (List Int)) (lines' : (List (List Int))) : Rx (List Int) :=
  Rx.bind ((grd ((weights').length = 6) <| bnd ((itD (weights') 0)) fun p_664 => bnd ((itD (weights') 1)) fun q_665 => bnd ((itD (weights') 2)) fun r_666 => bnd ((itD (weights') 3)) fun s_667 => bnd ((itD (weights') 4)) fun t_668 => bnd ((itD (weights') 5)) fun u_669 => .ok ((p_664), (q_665), (r_666), (s_667), (t_668), (u_669)) : Rx (Int × Int × Int × Int × Int × Int))) fun s => F__weighted_k1 (lines') (s.1) (s.2.1) (s.2.2.1) (s.2.2.2.1) (s.2.2.2.2.1) (s.2.2.2.2.2)

def F_quarter_area_c2 (width_857 : Int) (row_858 : (List Int)) (it893 : Int) : Rx (List Int) :=
  .ok (cutL (row_858) (some (it893)) (some ((it893 + width_857))))

def F_quarter_area_b1 (width_817 : Int) (f_818 : Int) (sums_852 : (List (List Int))) (it855 : (List Int)) : Rx ((List (List Int))) :=
  grd ((0 : Int) ≤ f_818 ∧ f_818 < 4) <| Rx.bind (mapA (rng (0) (Int.toNat (6))) [] (fun x => noEr (F_quarter_area_c2 (width_817) (it855) x))) fun v859 => Rx.bind (F__weighted ((itD ([[0, 0, 64, 0, 0, 0], [1, -5, 52, 20, -5, 1], [2, -10, 40, 40, -10, 2], [1, -5, 20, 52, -5, 1]] : List (List Int)) (f_818))) (v859)) fun v933 => grd ((sums_852).length ≤ 1000000) <| bnd ((sums_852) ++ [v933]) fun y955 => .ok (y955)

def F_quarter_area_c4 (top_1024 : Int) (it1074 : Int) : Rx Int :=
  Rx.bind (F_clip (((it1074 + 2048) / 4096)) 0 top_1024) fun v1075 => .ok v1075

def F_quarter_area_c3 (top_972 : Int) (g_973 : Int) (sums_974 : (List (List Int))) (it1003 : Int) : Rx (List Int) :=
  grd ((0 : Int) ≤ g_973 ∧ g_973 < 4) <| Rx.bind (F__weighted ((itD ([[0, 0, 64, 0, 0, 0], [1, -5, 52, 20, -5, 1], [2, -10, 40, 40, -10, 2], [1, -5, 20, 52, -5, 1]] : List (List Int)) (g_973))) (cutL (sums_974) (some (it1003)) (some ((it1003 + 6))))) fun v1015 => Rx.bind (mapA (v1015) [] (fun x => noEr (F_quarter_area_c4 (top_972) x))) fun v1025 => .ok v1025

def F_quarter_area_r1 (height_819 : Int) (top_820 : Int) (g_821 : Int) (sums_966 : (List (List Int))) : Rx (List (List Int)) :=
  grd (-(2 ^ 62) ≤ height_819 ∧ height_819 < 2 ^ 62) <| Rx.bind (mapA (rng (0) (Int.toNat (height_819))) [] (fun x => noEr (F_quarter_area_c3 (top_820) (g_821) (sums_966) x))) fun v975 => .ok (v975)

def F_quarter_area_c6 (width_1187 : Int) (row_1188 : (List Int)) (it1223 : Int) : Rx (List Int) :=
  .ok (cutL (row_1188) (some (it1223)) (some ((it1223 + width_1187))))

def F_quarter_area_b5 (width_1147 : Int) (f_1148 : Int) (sums_1182 : (List (List Int))) (it1185 : (List Int)) : Rx ((List (List Int))) :=
  grd ((0 : Int) ≤ f_1148 ∧ f_1148 < 4) <| Rx.bind (mapA (rng (0) (Int.toNat (6))) [] (fun x => noEr (F_quarter_area_c6 (width_1147) (it1185) x))) fun v1189 => Rx.bind (F__weighted ((itD ([[0, 0, 64, 0, 0, 0], [1, -5, 52, 20, -5, 1], [2, -10, 40, 40, -10, 2], [1, -5, 20, 52, -5, 1]] : List (List Int)) (f_1148))) (v1189)) fun v1263 => grd ((sums_1182).length ≤ 1000000) <| bnd ((sums_1182) ++ [v1263]) fun y1285 => .ok (y1285)

def F_quarter_area_c8 (top_1354 : Int) (it1404 : Int) : Rx Int :=
  Rx.bind (F_clip (((it1404 + 2048) / 4096)) 0 top_1354) fun v1405 => .ok v1405

def F_quarter_area_c7 (top_1302 : Int) (g_1303 : Int) (sums_1304 : (List (List Int))) (it1333 : Int) : Rx (List Int) :=
  grd ((0 : Int) ≤ g_1303 ∧ g_1303 < 4) <| Rx.bind (F__weighted ((itD ([[0, 0, 64, 0, 0, 0], [1, -5, 52, 20, -5, 1], [2, -10, 40, 40, -10, 2], [1, -5, 20, 52, -5, 1]] : List (List Int)) (g_1303))) (cutL (sums_1304) (some (it1333)) (some ((it1333 + 6))))) fun v1345 => Rx.bind (mapA (v1345) [] (fun x => noEr (F_quarter_area_c8 (top_1302) x))) fun v1355 => .ok v1355

def F_quarter_area_r5 (height_1149 : Int) (top_1150 : Int) (g_1151 : Int) (sums_1296 : (List (List Int))) : Rx (List (List Int)) :=
  grd (-(2 ^ 62) ≤ height_1149 ∧ height_1149 < 2 ^ 62) <| Rx.bind (mapA (rng (0) (Int.toNat (height_1149))) [] (fun x => noEr (F_quarter_area_c7 (top_1150) (g_1151) (sums_1296) x))) fun v1305 => .ok (v1305)

def F_quarter_area (plane' : (List (List Int))) (x' : Int) (y' : Int) (width' : Int) (height' : Int) (top' : Int) : Rx (List (List Int)) :=
  bnd ((PySem.Builtin.bitAnd (x') (3))) fun f_765 => bnd ((PySem.Builtin.bitAnd (y') (3))) fun g_766 => (if (f_765 : Int) = 0 then (if (g_766 : Int) = 0 then Rx.bind (F__samples (plane') ((x' / 4)) ((y' / 4)) width' height') fun v769 => .ok (v769) else Rx.bind (F__samples (plane') (((x' / 4) - 2)) (((y' / 4) - 2)) ((width' + 5)) ((height' + 5))) fun v798 => Rx.bind (forS (v798) (([] : (List (List Int)))) (fun s x => F_quarter_area_b1 (width') (f_765) s x)) fun s => F_quarter_area_r1 (height') (top') (g_766) s) else Rx.bind (F__samples (plane') (((x' / 4) - 2)) (((y' / 4) - 2)) ((width' + 5)) ((height' + 5))) fun v1128 => Rx.bind (forS (v1128) (([] : (List (List Int)))) (fun s x => F_quarter_area_b5 (width') (f_765) s x)) fun s => F_quarter_area_r5 (height') (top') (g_766) s)

def F_eighth_area_c2 (f_1529 : Int) (it1598 : (Int × Int)) : Rx Int :=
  grd ((-(2 ^ 64) < ((8 - f_1529) : Int) ∧ ((8 - f_1529) : Int) < 2 ^ 64) ∨ (-(2 ^ 64) < (it1598.1 : Int) ∧ (it1598.1 : Int) < 2 ^ 64)) <| grd ((-(2 ^ 64) < (f_1529 : Int) ∧ (f_1529 : Int) < 2 ^ 64) ∨ (-(2 ^ 64) < (it1598.2 : Int) ∧ (it1598.2 : Int) < 2 ^ 64)) <| .ok ((((8 - f_1529) * it1598.1) + (f_1529 * it1598.2)))

def F_eighth_area_b1 (f_1483 : Int) (sums_1515 : (List (List Int))) (it1518 : (List Int)) : Rx ((List (List Int))) :=
  Rx.bind (mapA (List.zip (it1518) (cutL (it1518) (some (1)) none)) [] (fun x => noEr (F_eighth_area_c2 (f_1483) x))) fun v1530 => grd ((sums_1515).length ≤ 1000000) <| bnd ((sums_1515) ++ [v1530]) fun y1640 => .ok (y1640)

def F_eighth_area_c4 (g_1732 : Int) (it1797 : (Int × Int)) : Rx Int :=
  grd ((-(2 ^ 64) < ((8 - g_1732) : Int) ∧ ((8 - g_1732) : Int) < 2 ^ 64) ∨ (-(2 ^ 64) < (it1797.1 : Int) ∧ (it1797.1 : Int) < 2 ^ 64)) <| grd ((-(2 ^ 64) < (g_1732 : Int) ∧ (g_1732 : Int) < 2 ^ 64) ∨ (-(2 ^ 64) < (it1797.2 : Int) ∧ (it1797.2 : Int) < 2 ^ 64)) <| .ok ((((((8 - g_1732) * it1797.1) + (g_1732 * it1797.2)) + 32) / 64))

def F_eighth_area_c3 (g_1666 : Int) (it1731 : ((List Int) × (List Int))) : Rx (List Int) :=
  Rx.bind (mapA (List.zip (it1731.1) (it1731.2)) [] (fun x => noEr (F_eighth_area_c4 (g_1666) x))) fun v1733 => .ok v1733

def F_eighth_area_r1 (g_1484 : Int) (sums_1651 : (List (List Int))) : Rx (List (List Int)) :=
  Rx.bind (mapA (List.zip (sums_1651) (cutL (sums_1651) (some (1)) none)) [] (fun x => noEr (F_eighth_area_c3 (g_1484) x))) fun v1667 => .ok (v1667)

def F_eighth_area (plane' : (List (List Int))) (x' : Int) (y' : Int) (width' : Int) (height' : Int) (top' : Int) : Rx (List (List Int)) :=
  bnd ((PySem.Builtin.bitAnd (x') (7))) fun f_1452 => bnd ((PySem.Builtin.bitAnd (y') (7))) fun g_1453 => Rx.bind (F__samples (plane') ((x' / 8)) ((y' / 8)) ((width' + 1)) ((height' + 1))) fun v1464 => Rx.bind (forS (v1464) (([] : (List (List Int)))) (fun s x => F_eighth_area_b1 (f_1452) s x)) fun s => F_eighth_area_r1 (g_1453) s

def F__law_at (plane' : (List (List Int))) (x' : Int) (y' : Int) : Rx Int :=
  grd (-((plane' : (List (List Int))).length : Int) ≤ (if ((((plane') : (List (List Int))).length : Int) - 1) < (if 0 > y' then 0 else y') then ((((plane') : (List (List Int))).length : Int) - 1) else (if 0 > y' then 0 else y')) ∧ (if ((((plane') : (List (List Int))).length : Int) - 1) < (if 0 > y' then 0 else y') then ((((plane') : (List (List Int))).length : Int) - 1) else (if 0 > y' then 0 else y')) < ((plane' : (List (List Int))).length : Int)) <| grd (-(((itD (plane') ((if ((((plane') : (List (List Int))).length : Int) - 1) < (if 0 > y' then 0 else y') then ((((plane') : (List (List Int))).length : Int) - 1) else (if 0 > y' then 0 else y')))) : (List Int)).length : Int) ≤ (if (((((itD (plane') ((if ((((plane') : (List (List Int))).length : Int) - 1) < (if 0 > y' then 0 else y') then ((((plane') : (List (List Int))).length : Int) - 1) else (if 0 > y' then 0 else y'))))) : (List Int)).length : Int) - 1) < (if 0 > x' then 0 else x') then (((((itD (plane') ((if ((((plane') : (List (List Int))).length : Int) - 1) < (if 0 > y' then 0 else y') then ((((plane') : (List (List Int))).length : Int) - 1) else (if 0 > y' then 0 else y'))))) : (List Int)).length : Int) - 1) else (if 0 > x' then 0 else x')) ∧ (if (((((itD (plane') ((if ((((plane') : (List (List Int))).length : Int) - 1) < (if 0 > y' then 0 else y') then ((((plane') : (List (List Int))).length : Int) - 1) else (if 0 > y' then 0 else y'))))) : (List Int)).length : Int) - 1) < (if 0 > x' then 0 else x') then (((((itD (plane') ((if ((((plane') : (List (List Int))).length : Int) - 1) < (if 0 > y' then 0 else y') then ((((plane') : (List (List Int))).length : Int) - 1) else (if 0 > y' then 0 else y'))))) : (List Int)).length : Int) - 1) else (if 0 > x' then 0 else x')) < (((itD (plane') ((if ((((plane') : (List (List Int))).length : Int) - 1) < (if 0 > y' then 0 else y') then ((((plane') : (List (List Int))).length : Int) - 1) else (if 0 > y' then 0 else y')))) : (List Int)).length : Int)) <| .ok ((itD ((itD (plane') ((if ((((plane') : (List (List Int))).length : Int) - 1) < (if 0 > y' then 0 else y') then ((((plane') : (List (List Int))).length : Int) - 1) else (if 0 > y' then 0 else y'))))) ((if (((((itD (plane') ((if ((((plane') : (List (List Int))).length : Int) - 1) < (if 0 > y' then 0 else y') then ((((plane') : (List (List Int))).length : Int) - 1) else (if 0 > y' then 0 else y'))))) : (List Int)).length : Int) - 1) < (if 0 > x' then 0 else x') then (((((itD (plane') ((if ((((plane') : (List (List Int))).length : Int) - 1) < (if 0 > y' then 0 else y') then ((((plane') : (List (List Int))).length : Int) - 1) else (if 0 > y' then 0 else y'))))) : (List Int)).length : Int) - 1) else (if 0 > x' then 0 else x')))))

def F__law_quarter_c2 (plane_1962 : (List (List Int))) (across_1963 : (List Int)) (i_1964 : Int) (j_1965 : Int) (t_1966 : Int) (it1997 : Int) : Rx Int :=
  grd (-((across_1963 : (List Int)).length : Int) ≤ it1997 ∧ it1997 < ((across_1963 : (List Int)).length : Int)) <| Rx.bind (F__law_at (plane_1962) ((i_1964 + it1997)) ((j_1965 + t_1966))) fun v1999 => grd ((-(2 ^ 64) < ((itD (across_1963) (it1997)) : Int) ∧ ((itD (across_1963) (it1997)) : Int) < 2 ^ 64) ∨ (-(2 ^ 64) < (v1999 : Int) ∧ (v1999 : Int) < 2 ^ 64)) <| .ok (((itD (across_1963) (it1997)) * v1999))

def F__law_quarter_b1 (plane_1939 : (List (List Int))) (across_1940 : (List Int)) (down_1941 : (List Int)) (i_1942 : Int) (j_1943 : Int) (total_1955 : Int) (it1958 : Int) : Rx (Int) :=
  grd (-((down_1941 : (List Int)).length : Int) ≤ it1958 ∧ it1958 < ((down_1941 : (List Int)).length : Int)) <| (if ((itD (down_1941) (it1958)) : Int) = 0 then .ok (total_1955) else grd (-((down_1941 : (List Int)).length : Int) ≤ it1958 ∧ it1958 < ((down_1941 : (List Int)).length : Int)) <| Rx.bind (mapA (rng (0) (Int.toNat (6))) [] (fun x => noEr (F__law_quarter_c2 (plane_1939) (across_1940) (i_1942) (j_1943) (it1958) x))) fun v1967 => grd ((-(2 ^ 64) < ((itD (down_1941) (it1958)) : Int) ∧ ((itD (down_1941) (it1958)) : Int) < 2 ^ 64) ∨ (-(2 ^ 64) < ((List.sum (v1967)) : Int) ∧ ((List.sum (v1967)) : Int) < 2 ^ 64)) <| bnd ((total_1955 + ((itD (down_1941) (it1958)) * (List.sum (v1967))))) fun total_2022 => .ok (total_2022))

def F__law_quarter_r1 (top_1944 : Int) (total_2028 : Int) : Rx Int :=
  .ok ((if top_1944 < (if 0 > (total_2028 / 4096) then 0 else (total_2028 / 4096)) then top_1944 else (if 0 > (total_2028 / 4096) then 0 else (total_2028 / 4096))))

def F__law_quarter (plane' : (List (List Int))) (x' : Int) (y' : Int) (top' : Int) : Rx Int :=
  grd (-(([[0, 0, 64, 0, 0, 0], [1, (-5), 52, 20, (-5), 1], [2, (-10), 40, 40, (-10), 2], [1, (-5), 20, 52, (-5), 1]] : (List (List Int))).length : Int) ≤ (PySem.Builtin.bitAnd (x') (3)) ∧ (PySem.Builtin.bitAnd (x') (3)) < (([[0, 0, 64, 0, 0, 0], [1, (-5), 52, 20, (-5), 1], [2, (-10), 40, 40, (-10), 2], [1, (-5), 20, 52, (-5), 1]] : (List (List Int))).length : Int)) <| grd (-(([[0, 0, 64, 0, 0, 0], [1, (-5), 52, 20, (-5), 1], [2, (-10), 40, 40, (-10), 2], [1, (-5), 20, 52, (-5), 1]] : (List (List Int))).length : Int) ≤ (PySem.Builtin.bitAnd (y') (3)) ∧ (PySem.Builtin.bitAnd (y') (3)) < (([[0, 0, 64, 0, 0, 0], [1, (-5), 52, 20, (-5), 1], [2, (-10), 40, 40, (-10), 2], [1, (-5), 20, 52, (-5), 1]] : (List (List Int))).length : Int)) <| bnd (((x' / 4) - 2)) fun i_1937 => bnd (((y' / 4) - 2)) fun j_1938 => Rx.bind (forS (rng (0) (Int.toNat (6))) (2048) (fun s x => F__law_quarter_b1 (plane') ((itD ([[0, 0, 64, 0, 0, 0], [1, (-5), 52, 20, (-5), 1], [2, (-10), 40, 40, (-10), 2], [1, (-5), 20, 52, (-5), 1]]) ((PySem.Builtin.bitAnd (x') (3))))) ((itD ([[0, 0, 64, 0, 0, 0], [1, (-5), 52, 20, (-5), 1], [2, (-10), 40, 40, (-10), 2], [1, (-5), 20, 52, (-5), 1]]) ((PySem.Builtin.bitAnd (y') (3))))) (i_1937) (j_1938) s x)) fun s => F__law_quarter_r1 (top') s

def F__law_eighth (plane' : (List (List Int))) (x' : Int) (y' : Int) : Rx Int :=
  bnd ((PySem.Builtin.bitAnd (x') (7))) fun f_2033 => bnd ((PySem.Builtin.bitAnd (y') (7))) fun g_2034 => bnd ((x' / 8)) fun i_2035 => bnd ((y' / 8)) fun j_2036 => Rx.bind (F__law_at (plane') i_2035 j_2036) fun v2037 => grd ((-(2 ^ 64) < ((8 - f_2033) : Int) ∧ ((8 - f_2033) : Int) < 2 ^ 64) ∨ (-(2 ^ 64) < (v2037 : Int) ∧ (v2037 : Int) < 2 ^ 64)) <| Rx.bind (F__law_at (plane') ((i_2035 + 1)) j_2036) fun v2039 => grd ((-(2 ^ 64) < (f_2033 : Int) ∧ (f_2033 : Int) < 2 ^ 64) ∨ (-(2 ^ 64) < (v2039 : Int) ∧ (v2039 : Int) < 2 ^ 64)) <| bnd ((((8 - f_2033) * v2037) + (f_2033 * v2039))) fun upper_2041 => Rx.bind (F__law_at (plane') i_2035 ((j_2036 + 1))) fun v2042 => grd ((-(2 ^ 64) < ((8 - f_2033) : Int) ∧ ((8 - f_2033) : Int) < 2 ^ 64) ∨ (-(2 ^ 64) < (v2042 : Int) ∧ (v2042 : Int) < 2 ^ 64)) <| Rx.bind (F__law_at (plane') ((i_2035 + 1)) ((j_2036 + 1))) fun v2044 => grd ((-(2 ^ 64) < (f_2033 : Int) ∧ (f_2033 : Int) < 2 ^ 64) ∨ (-(2 ^ 64) < (v2044 : Int) ∧ (v2044 : Int) < 2 ^ 64)) <| bnd ((((8 - f_2033) * v2042) + (f_2033 * v2044))) fun lower_2046 => grd ((-(2 ^ 64) < ((8 - g_2034) : Int) ∧ ((8 - g_2034) : Int) < 2 ^ 64) ∨ (-(2 ^ 64) < (upper_2041 : Int) ∧ (upper_2041 : Int) < 2 ^ 64)) <| grd ((-(2 ^ 64) < (g_2034 : Int) ∧ (g_2034 : Int) < 2 ^ 64) ∨ (-(2 ^ 64) < (lower_2046 : Int) ∧ (lower_2046 : Int) < 2 ^ 64)) <| .ok ((((((8 - g_2034) * upper_2041) + (g_2034 * lower_2046)) + 32) / 64))

def F_law_c1 (it2149 : (List Int)) : Rx (List Int) :=
  .ok it2149

def F_law_c5 (top_2381 : Int) (kept_2382 : (List (List Int))) (x_2383 : Int) (y_2384 : Int) (j_2385 : Int) (it2432 : Int) : Rx Int :=
  Rx.bind (F__law_quarter (kept_2382) ((x_2383 + (4 * it2432))) ((y_2384 + (4 * j_2385))) top_2381) fun v2433 => .ok v2433

def F_law_c4 (top_2332 : Int) (kept_2333 : (List (List Int))) (x_2334 : Int) (y_2335 : Int) (width_2336 : Int) (it2379 : Int) : Rx (List Int) :=
  grd (-(2 ^ 62) ≤ width_2336 ∧ width_2336 < 2 ^ 62) <| Rx.bind (mapA (rng (0) (Int.toNat (width_2336))) [] (fun x => noEr (F_law_c5 (top_2332) (kept_2333) (x_2334) (y_2335) (it2379) x))) fun v2386 => .ok v2386

def F_law_c6 (it2608 : (List Int)) : Rx (List Int) :=
  .ok it2608

def F_law_c8 (kept_2765 : (List (List Int))) (x_2766 : Int) (y_2767 : Int) (j_2768 : Int) (it2827 : Int) : Rx Int :=
  Rx.bind (F__law_eighth (kept_2765) ((x_2766 + (8 * it2827))) ((y_2767 + (8 * j_2768)))) fun v2828 => .ok v2828

def F_law_c7 (kept_2705 : (List (List Int))) (x_2706 : Int) (y_2707 : Int) (width_2708 : Int) (it2763 : Int) : Rx (List Int) :=
  grd (-(2 ^ 62) ≤ width_2708 ∧ width_2708 < 2 ^ 62) <| Rx.bind (mapA (rng (0) (Int.toNat (width_2708))) [] (fun x => noEr (F_law_c8 (kept_2705) (x_2706) (y_2707) (it2763) x))) fun v2769 => .ok v2769

def F_law_c9 (it3034 : (List Int)) : Rx (List Int) :=
  .ok it3034

def F_law_k3 (top_2288 : Int) (plane_2289 : (List (List Int))) (kept_2290 : (List (List Int))) (place_2291 : (List Int)) (x_2292 : Int) (y_2293 : Int) : Rx (Lp Unit Bool) :=
  grd (-((place_2291 : (List Int)).length : Int) ≤ 5 ∧ 5 < ((place_2291 : (List Int)).length : Int)) <| bnd ((1 + (itD (place_2291) (5)))) fun width_2328 => grd (-((place_2291 : (List Int)).length : Int) ≤ 6 ∧ 6 < ((place_2291 : (List Int)).length : Int)) <| bnd ((1 + (itD (place_2291) (6)))) fun height_2330 => grd (-(2 ^ 62) ≤ height_2330 ∧ height_2330 < 2 ^ 62) <| Rx.bind (mapA (rng (0) (Int.toNat (height_2330))) [] (fun x => noEr (F_law_c4 (top_2288) (kept_2290) (x_2292) (y_2293) (width_2328) x))) fun v2337 => Rx.bind (F_quarter_area (plane_2289) x_2292 y_2293 width_2328 height_2330 top_2288) fun v2506 => (if (v2506 : (List (List Int))) = v2337 then Rx.bind (mapA (v2337) [] (fun x => noEr (F_law_c6  x))) fun v2528 => grd (-((v2506 : (List (List Int))).length : Int) ≤ 0 ∧ 0 < ((v2506 : (List (List Int))).length : Int)) <| grd (-(((itD (v2506) (0)) : (List Int)).length : Int) ≤ 0 ∧ 0 < (((itD (v2506) (0)) : (List Int)).length : Int)) <| bnd (setL (v2506) (0) (setL ((itD (v2506) (0))) (0) ((-1)))) fun y2678 => grd (-((v2528 : (List (List Int))).length : Int) ≤ 0 ∧ 0 < ((v2528 : (List (List Int))).length : Int)) <| grd (-(((itD (v2528) (0)) : (List Int)).length : Int) ≤ 0 ∧ 0 < (((itD (v2528) (0)) : (List Int)).length : Int)) <| bnd (setL (v2528) (0) (setL ((itD (v2528) (0))) (0) ((-1)))) fun y2699 => (if (y2678 : (List (List Int))) = y2699 then grd (-(2 ^ 62) ≤ height_2330 ∧ height_2330 < 2 ^ 62) <| Rx.bind (mapA (rng (0) (Int.toNat (height_2330))) [] (fun x => noEr (F_law_c7 (kept_2290) (x_2292) (y_2293) (width_2328) x))) fun v2709 => Rx.bind (F_eighth_area (plane_2289) x_2292 y_2293 width_2328 height_2330 top_2288) fun v2921 => (if (v2921 : (List (List Int))) = v2709 then (if (plane_2289 : (List (List Int))) = kept_2290 then Rx.bind (mapA (v2709) [] (fun x => noEr (F_law_c9  x))) fun v2948 => grd (-((v2921 : (List (List Int))).length : Int) ≤ (-1) ∧ (-1) < ((v2921 : (List (List Int))).length : Int)) <| grd (-(((itD (v2921) ((-1))) : (List Int)).length : Int) ≤ 0 ∧ 0 < (((itD (v2921) ((-1))) : (List Int)).length : Int)) <| bnd (setL (v2921) ((-1)) (setL ((itD (v2921) ((-1)))) (0) ((-1)))) fun y3108 => grd (-((v2948 : (List (List Int))).length : Int) ≤ (-1) ∧ (-1) < ((v2948 : (List (List Int))).length : Int)) <| grd (-(((itD (v2948) ((-1))) : (List Int)).length : Int) ≤ 0 ∧ 0 < (((itD (v2948) ((-1))) : (List Int)).length : Int)) <| bnd (setL (v2948) ((-1)) (setL ((itD (v2948) ((-1)))) (0) ((-1)))) fun y3129 => (if (y3108 : (List (List Int))) = y3129 then (if (plane_2289 : (List (List Int))) = kept_2290 then Rx.bind (F_eighth_area (plane_2289) x_2292 y_2293 width_2328 height_2330 top_2288) fun v3139 => (if (v3139 : (List (List Int))) = v2709 then .ok (.go ()) else .ok (.rt (false))) else .ok (.rt (false))) else .ok (.rt (false))) else .ok (.rt (false))) else .ok (.rt (false))) else .ok (.rt (false))) else .ok (.rt (false)))

def F_law_b2 (top_2223 : Int) (plane_2224 : (List (List Int))) (kept_2225 : (List (List Int))) (it2265 : Int) : Rx (Lp Unit Bool) :=
  Rx.bind (F__law_draws it2265 ([3, 120, 120, 5000, 5000, 8, 8])) fun v2275 => grd (-((v2275 : (List Int)).length : Int) ≤ 1 ∧ 1 < ((v2275 : (List Int)).length : Int)) <| bnd (((itD (v2275) (1)) - 20)) fun x_2285 => grd (-((v2275 : (List Int)).length : Int) ≤ 2 ∧ 2 < ((v2275 : (List Int)).length : Int)) <| bnd (((itD (v2275) (2)) - 20)) fun y_2287 => Rx.bind ((grd (-((v2275 : (List Int)).length : Int) ≤ 0 ∧ 0 < ((v2275 : (List Int)).length : Int)) <| (if ((itD (v2275) (0)) : Int) = 2 then grd (-((v2275 : (List Int)).length : Int) ≤ 3 ∧ 3 < ((v2275 : (List Int)).length : Int)) <| bnd (((itD (v2275) (3)) - 2500)) fun x_2301 => grd (-((v2275 : (List Int)).length : Int) ≤ 4 ∧ 4 < ((v2275 : (List Int)).length : Int)) <| bnd (((itD (v2275) (4)) - 2500)) fun y_2303 => .ok ((x_2301), (y_2303)) else .ok ((x_2285), (y_2287))) : Rx (Int × Int))) fun s => F_law_k3 (top_2223) (plane_2224) (kept_2225) (v2275) (s.1) (s.2)

def F_law_r2  : Rx Bool :=
  .ok (true)

def F_law (script' : (List Int)) : Rx Bool :=
  Rx.bind (F__law_cell (script') 0) fun v2049 => Rx.bind (F__law_draws v2049 ([10, 10, 5])) fun v2059 => grd (-((v2059 : (List Int)).length : Int) ≤ 2 ∧ 2 < ((v2059 : (List Int)).length : Int)) <| grd ((0 : Int) ≤ (8 + (itD (v2059) (2))) ∧ ((8 + (itD (v2059) (2))) : Int) ≤ 4096 ∧ -(2 ^ 4096) < (1 : Int) ∧ (1 : Int) < 2 ^ 4096) <| bnd (((1 * 2 ^ Int.toNat ((8 + (itD (v2059) (2))))) - 1)) fun top_2070 => Rx.bind (F__law_cell (script') 1) fun v2071 => grd (-((v2059 : (List Int)).length : Int) ≤ 0 ∧ 0 < ((v2059 : (List Int)).length : Int)) <| grd (-((v2059 : (List Int)).length : Int) ≤ 1 ∧ 1 < ((v2059 : (List Int)).length : Int)) <| Rx.bind (F__law_plane v2071 ((1 + (itD (v2059) (0)))) ((1 + (itD (v2059) (1)))) top_2070) fun v2074 => Rx.bind (mapA (v2074) [] (fun x => noEr (F_law_c1  x))) fun v2093 => grd (([0]).length + (cutL (script') (some (2)) none).length ≤ 1000000) <| Rx.bind (forR (cutL (([0]) ++ (cutL (script') (some (2)) none)) none (some (6))) () (fun s x => F_law_b2 (top_2070) (v2074) (v2093)  x)) fun l => l.aft Rx.ok fun s => F_law_r2  
theorem cell_gv (s : List Int) (k : Int) (h : 0 ≤ k) : Gv (F__law_cell s k) (fun _ => True) := by
  unfold F__law_cell
  exact Gv.ite (fun c => Gv.grd ⟨by omega, c⟩ (.ok trivial)) fun _ => .ok trivial
def Inb : List Int → List Int → Prop
  | [], [] => True
  | v :: vs, l :: ls => 0 ≤ v ∧ v < l ∧ Inb vs ls
  | _, _ => False
theorem Inb.snoc : ∀ {vs ls : List Int} {y l : Int}, Inb vs ls → 0 ≤ y → y < l → Inb (vs ++ [y]) (ls ++ [l])
  | [], [], _, _, _, h0, h1 => ⟨h0, h1, trivial⟩
  | _ :: _, _ :: _, _, _, h, h0, h1 => ⟨h.1, h.2.1, Inb.snoc h.2.2 h0 h1⟩
  | [], _ :: _, _, _, h, _, _ => h.elim
  | _ :: _, [], _, _, h, _, _ => h.elim
theorem Inb.len : ∀ {vs ls : List Int}, Inb vs ls → vs.length = ls.length
  | [], [], _ => rfl
  | _ :: _, _ :: _, h => congrArg Nat.succ (Inb.len h.2.2)
  | [], _ :: _, h => h.elim
  | _ :: _, [], h => h.elim
theorem Inb.cons {v ls : List Int} {l : Int} (h : Inb v (l :: ls)) : ∃ a r, v = a :: r ∧ 0 ≤ a ∧ a < l ∧ Inb r ls := by
  cases v with
  | nil => exact h.elim
  | cons a r => exact ⟨a, r, rfl, h.1, h.2.1, h.2.2⟩
theorem Inb.nil {v : List Int} (h : Inb v []) : v = [] := by
  cases v with
  | nil => rfl
  | cons a r => exact h.elim
theorem draws_gv (cell : Int) (limits : List Int) (hl : ∀ l ∈ limits, 0 < l ∧ l < 18446744073709551616) (hn : limits.length ≤ 1000000) : Gv (F__law_draws cell limits) (fun v => Inb v limits) := by
  unfold F__law_draws
  refine Gv.bnd fun rest _ => Gv.bnd fun state _ => Gv.bnd fun free _ => Gv.bind (Gv.forS (P := fun i s => Inb s.1 (limits.take i)) ?_ fun i x s hx p => ?_) fun s p => .ok ?_
  · rw [List.take_zero]
    trivial
  · have hb0 := hl x (List.mem_of_getElem? hx)
    have hb : 0 < x ∧ x < 2 ^ 128 := ⟨hb0.1, by omega⟩
    have hlen := p.len
    have hi := get_len hx
    rw [List.length_take] at hlen
    have nx : ∀ y : Int, 0 ≤ y → y < x → Inb (s.1 ++ [y]) (limits.take (i + 1)) := fun y h0 h1 => by
      rw [take_succ_get hx]
      exact p.snoc h0 h1
    unfold F__law_draws_b1
    refine Gv.ite (fun _ => Gv.ite (fun _ => Gv.grd hb.1 (Gv.grd (by omega) (Gv.bnd fun y hy => Gv.grd ⟨hb.1, hb.2⟩ (Gv.bnd fun _ _ => .ok ?_)))) fun _ => Gv.bnd fun _ _ => Gv.bnd fun _ _ => Gv.grd hb.1 (Gv.grd (by omega) (Gv.bnd fun y hy => .ok ?_))) fun _ => Gv.bnd fun _ _ => Gv.bnd fun _ _ => Gv.grd hb.1 (Gv.grd (by omega) (Gv.bnd fun y hy => .ok ?_))
    · subst hy
      exact nx _ (Int.emod_nonneg _ (by omega)) (Int.emod_lt_of_pos _ hb.1)
    · subst hy
      exact nx _ (Int.emod_nonneg _ (by omega)) (Int.emod_lt_of_pos _ hb.1)
    · subst hy
      exact nx _ (Int.emod_nonneg _ (by omega)) (Int.emod_lt_of_pos _ hb.1)
  · rw [List.take_length] at p
    exact p
theorem ixg {xs : List Int} {k : Int} {n : Nat} (e : xs.length = n) (h : -(n : Int) ≤ k ∧ k < n) : -(xs.length : Int) ≤ k ∧ k < xs.length := by
  rw [e]
  exact h
theorem itD_lit {xs : List Int} {a k : Int} (n : Nat) (e : k = (n : Int)) (h : xs[n]? = some a) : itD xs k = a := by
  subst e
  have hl := get_len h
  unfold itD atI ixN
  rw [if_pos (by omega), if_pos (by omega)]
  show (xs[n]?).getD default = a
  rw [h]
  rfl
theorem itD_some {α : Type} [Inhabited α] {xs : List α} {k : Int} (h : -(xs.length : Int) ≤ k ∧ k < xs.length) : ∃ j : Nat, xs[j]? = some (itD xs k) := by
  obtain ⟨j, e, hj⟩ := ixN_some h
  refine ⟨j, ?_⟩
  unfold itD atI
  rw [e, List.getElem?_eq_getElem hj]
  show some xs[j] = some ((xs[j]?).getD default)
  rw [List.getElem?_eq_getElem hj] <;> rfl
theorem itD_mem {α : Type} [Inhabited α] {xs : List α} {k : Int} (h : -(xs.length : Int) ≤ k ∧ k < xs.length) : itD xs k ∈ xs := by
  obtain ⟨j, e⟩ := itD_some h
  exact List.mem_of_getElem? e
theorem itD_map {α β : Type} [Inhabited α] [Inhabited β] {xs : List α} {f : α → β} {k : Int} (h : -(xs.length : Int) ≤ k ∧ k < xs.length) : itD (xs.map f) k = f (itD xs k) := by
  obtain ⟨j, e, hj⟩ := ixN_some h
  unfold itD atI
  rw [List.length_map, e]
  show ((xs.map f)[j]?).getD default = f ((xs[j]?).getD default)
  rw [List.getElem?_map, List.getElem?_eq_getElem hj] <;> rfl
theorem itD_nat {α : Type} [Inhabited α] {xs : List α} {k : Int} {j : Nat} (e : k = (j : Int)) (h : j < xs.length) : itD xs k = xs[j] := by
  subst e
  unfold itD atI ixN
  rw [if_pos (by omega), if_pos (by omega)]
  show (xs[j]?).getD default = _
  rw [List.getElem?_eq_getElem h] <;> rfl
theorem setL_mem {α : Type} {xs : List α} {k : Int} {y z : α} (h : z ∈ setL xs k y) : z ∈ xs ∨ z = y := by
  unfold setL at h
  exact List.mem_or_eq_of_mem_set h
theorem setL_len {α : Type} {xs : List α} {k : Int} {y : α} : (setL xs k y).length = xs.length := by
  unfold setL
  rw [List.length_set]
/-! planes, samples between samples -/
theorem mask2 (x : Int) : PySem.Builtin.bitAnd x 3 = x % 4 := by
  by_cases h : 0 ≤ x
  · rw [PyProof.Rows.bitAnd_pp h (by decide)]
    have e : x.toNat &&& (3 : Int).toNat = x.toNat % 4 := Nat.and_two_pow_sub_one_eq_mod x.toNat 2
    rw [e]; omega
  · rw [PyProof.Rows.bitAnd_np h (by decide), Nat.and_comm]
    have e : (PySem.Builtin.bitNot x).toNat &&& (3 : Int).toNat = (PySem.Builtin.bitNot x).toNat % 4 := Nat.and_two_pow_sub_one_eq_mod _ 2
    rw [e]; unfold PySem.Builtin.bitNot; omega
theorem mask3 (x : Int) : PySem.Builtin.bitAnd x 7 = x % 8 := by
  by_cases h : 0 ≤ x
  · rw [PyProof.Rows.bitAnd_pp h (by decide)]
    have e : x.toNat &&& (7 : Int).toNat = x.toNat % 8 := Nat.and_two_pow_sub_one_eq_mod x.toNat 3
    rw [e]; omega
  · rw [PyProof.Rows.bitAnd_np h (by decide), Nat.and_comm]
    have e : (PySem.Builtin.bitNot x).toNat &&& (7 : Int).toNat = (PySem.Builtin.bitNot x).toNat % 8 := Nat.and_two_pow_sub_one_eq_mod _ 3
    rw [e]; unfold PySem.Builtin.bitNot; omega
/-! ### tables -/
section
variable {α : Type}
theorem rng_map_get {f : Int → α} {a : Int} {n i : Nat} (h : i < n) : ((rng a n).map f)[i]? = some (f (a + i)) := by rw [List.getElem?_map, rng_get h]; rfl
theorem rng_map_ext {f g : Int → α} {a b : Int} {n : Nat} (h : ∀ i : Nat, i < n → f (a + i) = g (b + i)) : (rng a n).map f = (rng b n).map g := by
  apply List.ext_getElem?
  intro i
  by_cases hi : i < n
  · rw [rng_map_get hi, rng_map_get hi, h i hi]
  · rw [List.getElem?_eq_none (by rw [List.length_map, rng_len]; omega), List.getElem?_eq_none (by rw [List.length_map, rng_len]; omega)]
theorem rng_map_itD [Inhabited α] {f : Int → α} {a k : Int} {n : Nat} (h0 : 0 ≤ k) (h1 : k < n) : itD ((rng a n).map f) k = f (a + k) := by
  obtain ⟨j, rfl⟩ : ∃ j : Nat, k = (j : Int) := ⟨k.toNat, by omega⟩
  have hl : j < ((rng a n).map f).length := by rw [List.length_map, rng_len]; omega
  have := rng_map_get (f := f) (a := a) (n := n) (i := j) (by omega)
  unfold itD
  rw [atI_nat this]
  rfl
theorem sIx_at {n d : Nat} {v : Int} (h0 : 0 ≤ v) (h1 : v ≤ n) : HT.sIx n d (some v) = v.toNat := by
  show (if v < 0 then (v + (n : Int)).toNat else min v.toNat n) = v.toNat
  rw [if_neg (by omega)]
  omega
theorem cut_tab {f : Int → α} {a s : Int} {n k : Nat} (h0 : 0 ≤ s) (h1 : s + k ≤ n) : cutL ((rng a n).map f) (some s) (some (s + k)) = (rng (a + s) k).map f := by
  have hl : ((rng a n).map f).length = n := by rw [List.length_map, rng_len]
  unfold cutL
  rw [hl, sIx_at h0 (by omega), sIx_at (by omega) h1]
  apply List.ext_getElem?
  intro i
  by_cases hi : i < k
  · rw [List.getElem?_take_of_lt (by omega), List.getElem?_drop, rng_map_get (by omega), rng_map_get hi]
    congr 2
    omega
  · rw [List.getElem?_eq_none (by rw [List.length_take, List.length_drop, hl]; omega), List.getElem?_eq_none (by rw [List.length_map, rng_len]; omega)]
theorem cut_tab1 {f : Int → α} {a : Int} {n : Nat} : cutL ((rng a (n + 1)).map f) (some 1) none = (rng (a + 1) n).map f := by
  have hl : ((rng a (n + 1)).map f).length = n + 1 := by rw [List.length_map, rng_len]
  unfold cutL
  rw [hl, sIx_at (by decide) (by omega), HT.sIx_none]
  apply List.ext_getElem?
  intro i
  by_cases hi : i < n
  · rw [List.getElem?_take_of_lt (by show i < n + 1 - 1; omega), List.getElem?_drop, rng_map_get (by show 1 + i < n + 1; omega), rng_map_get hi]
    congr 2
    show a + ((1 + i : Nat) : Int) = a + 1 + i
    omega
  · rw [List.getElem?_eq_none (by rw [List.length_take, List.length_drop, hl]; show min (n + 1 - 1) (n + 1 - 1) ≤ i; omega), List.getElem?_eq_none (by rw [List.length_map, rng_len]; omega)]
theorem zip_tab {f : Int → α} {a : Int} {n : Nat} : List.zip ((rng a (n + 1)).map f) (cutL ((rng a (n + 1)).map f) (some 1) none) = (rng a n).map fun c => (f c, f (c + 1)) := by
  rw [cut_tab1]
  apply List.ext_getElem?
  intro i
  by_cases hi : i < n
  · rw [rng_map_get hi]
    refine List.getElem?_zip_eq_some.mpr ⟨rng_map_get (by omega), ?_⟩
    rw [rng_map_get hi]
    congr 2
    omega
  · rw [List.getElem?_eq_none (by rw [List.length_zip, List.length_map, List.length_map, rng_len, rng_len]; omega), List.getElem?_eq_none (by rw [List.length_map, rng_len]; omega)]
theorem zip_tab2 {β : Type} {f : Int → α} {g : Int → β} {a : Int} {n : Nat} : List.zip ((rng a n).map f) ((rng a n).map g) = (rng a n).map fun c => (f c, g c) := by
  apply List.ext_getElem?
  intro i
  by_cases hi : i < n
  · rw [rng_map_get hi]
    exact List.getElem?_zip_eq_some.mpr ⟨rng_map_get hi, rng_map_get hi⟩
  · rw [List.getElem?_eq_none (by rw [List.length_zip, List.length_map, List.length_map, rng_len]; omega), List.getElem?_eq_none (by rw [List.length_map, rng_len]; omega)]
end
theorem itDn {α : Type} [Inhabited α] {xs : List α} {j : Nat} (h : j < xs.length) : itD xs (j : Int) = xs[j] := itD_nat rfl h
theorem zip_rows {u : Int → Int → Int} {a b : Int} {n k : Nat} (hk : 0 < k) : zipRows ((rng a k).map fun s => (rng b n).map fun c => u s c) = (rng b n).map fun c => (rng a k).map fun s => u s c := by
  have hne : ((rng a k).map fun s => (rng b n).map fun c => u s c) ≠ [] := by
    intro z
    have := congrArg List.length z
    rw [List.length_map, rng_len] at this
    simp at this
    omega
  have hm : minLen ((rng a k).map fun s => (rng b n).map fun c => u s c) = n := by
    obtain ⟨x, hx, e⟩ := minLen_at hne
    obtain ⟨s, _, rfl⟩ := List.mem_map.mp hx
    rw [← e, List.length_map, rng_len]
  apply List.ext_getElem?
  intro i
  by_cases hi : i < n
  · rw [zipRows_get (by rw [hm]; exact hi), rng_map_get hi]
    congr 1
    unfold colOf
    rw [List.map_map]
    apply List.map_congr_left
    intro s _
    show itD ((rng b n).map fun c => u s c) (i : Int) = u s (b + i)
    rw [rng_map_itD (by omega) (by omega)]
  · rw [List.getElem?_eq_none (by rw [zipRows_len, hm]; omega), List.getElem?_eq_none (by rw [List.length_map, rng_len]; omega)]
/-- a loop that makes a list item by item -/
theorem forS_list {α β : Type} {xs : List α} {f : List β → α → Rx (List β)} {g : α → β} (h : ∀ s x, x ∈ xs → s.length ≤ 1000000 → f s x = .ok (s ++ [g x])) : ∀ acc : List β, acc.length + xs.length ≤ 1000000 → forS xs acc f = .ok (acc ++ xs.map g) := by
  induction xs with
  | nil => intro acc _; simp [forS]
  | cons x r ih =>
    intro acc hl
    rw [List.length_cons] at hl
    show (f acc x).bind _ = _
    rw [h acc x List.mem_cons_self (by omega), bind_ok, ih (fun s y hy => h s y (List.mem_cons_of_mem _ hy)) (acc ++ [g x]) (by rw [List.length_append, List.length_cons, List.length_nil]; omega)]
    simp
/-! ### a plane -/
def Pl (w h top : Int) (M : List (List Int)) : Prop := 1 ≤ w ∧ 1 ≤ h ∧ (M.length : Int) = h ∧ (∀ r ∈ M, (r.length : Int) = w) ∧ ∀ r ∈ M, ∀ x ∈ r, 0 ≤ x ∧ x ≤ top
def cl (v hi : Int) : Int := if hi < (if 0 > v then 0 else v) then hi else (if 0 > v then 0 else v)
theorem cl_in {v hi : Int} (h : 0 ≤ hi) : 0 ≤ cl v hi ∧ cl v hi ≤ hi := by
  unfold cl
  split <;> split <;> omega
theorem cl_id {v hi : Int} (h0 : 0 ≤ v) (h1 : v ≤ hi) : cl v hi = v := by
  unfold cl
  rw [if_neg (show ¬ 0 > v by omega), if_neg (by omega)]
def val (w h : Int) (M : List (List Int)) (x y : Int) : Int := itD (itD M (cl y (h - 1))) (cl x (w - 1))
section
variable {w h top : Int} {M : List (List Int)}
theorem Pl.row (p : Pl w h top M) {y : Int} (h0 : 0 ≤ y) (h1 : y < h) : ((itD M y).length : Int) = w := by
  obtain ⟨_, _, hl, hr, _⟩ := p
  exact hr _ (itD_mem (by rw [hl]; omega))
theorem Pl.val (p : Pl w h top M) (x y : Int) : 0 ≤ val w h M x y ∧ val w h M x y ≤ top := by
  have h1 := cl_in (v := y) (hi := h - 1) (by have := p.2.1; omega)
  have h2 := cl_in (v := x) (hi := w - 1) (by have := p.1; omega)
  have hr := p.row (y := cl y (h - 1)) h1.1 (by omega)
  exact p.2.2.2.2 _ (itD_mem (by rw [p.2.2.1]; omega)) _ (itD_mem (by rw [hr]; omega))
theorem at_eq (p : Pl w h top M) (x y : Int) : F__law_at M x y = .ok (val w h M x y) := by
  have h1 := cl_in (v := y) (hi := h - 1) (by have := p.2.1; omega)
  have h2 := cl_in (v := x) (hi := w - 1) (by have := p.1; omega)
  have hr := p.row (y := cl y (h - 1)) h1.1 (by omega)
  have hM := p.2.2.1
  refine Gv.get ?_
  unfold F__law_at
  unfold cl at hr h1 h2
  rw [hM, hr]
  exact Gv.grd (by omega) (Gv.grd (by omega) (.ok rfl))
theorem samples_eq (p : Pl w h top M) {x y W H : Int} (hx : -1000000 ≤ x ∧ x ≤ 1000000) (hy : -1000000 ≤ y ∧ y ≤ 1000000) (hW : 0 ≤ W ∧ W ≤ 1000) (hH : 0 ≤ H ∧ H ≤ 1000) :
    F__samples M x y W H = .ok ((rng y H.toNat).map fun r => (rng x W.toNat).map fun c => val w h M c r) := by
  have hp := p
  obtain ⟨hw, hh, hM, hrow, _⟩ := p
  have r0 := hp.row (y := 0) (by decide) (by omega)
  refine Gv.get ?_
  unfold F__samples
  rw [show x + W - x = W by omega, show y + H - y = H by omega]
  refine Gv.grd ⟨by omega, by omega, by omega, by omega⟩ (Gv.bind_eq (mapA_pure0 (g := fun c => cl c (w - 1)) (fun c _ => ?_) (by rw [rng_len]; omega)) (Gv.grd ⟨by omega, by omega, by omega, by omega⟩ (Gv.bind_eq (mapA_pure0 (g := fun r => cl r (h - 1)) (fun r _ => ?_) (by rw [rng_len]; omega)) (Gv.bind_eq (mapA_pure0 (g := fun r => ((rng x W.toNat).map fun c => cl c (w - 1)).map fun c => itD (itD M r) c) (fun r hr => ?_) (by rw [List.length_map, rng_len]; omega)) (.ok ?_)))))
  · unfold F__samples_c1
    rw [grd_pos (by omega), r0]
    rfl
  · unfold F__samples_c2
    rw [hM]
    rfl
  · obtain ⟨r', _, rfl⟩ := List.mem_map.mp hr
    have h1 := cl_in (v := r') (hi := h - 1) (by omega)
    unfold F__samples_c3
    rw [mapA_pure0 (f := fun c => noEr (F__samples_c4 M (cl r' (h - 1)) c)) (g := fun c => itD (itD M (cl r' (h - 1))) c) (fun c hc => ?_) (by rw [List.length_map, rng_len]; omega)]
    · rfl
    · obtain ⟨c', _, rfl⟩ := List.mem_map.mp hc
      have h2 := cl_in (v := c') (hi := w - 1) (by omega)
      unfold F__samples_c4
      rw [grd_pos (by rw [hM]; omega), grd_pos (by rw [hp.row h1.1 (by omega)]; omega)]
      rfl
  · rw [List.map_map]
    apply List.map_congr_left
    intro r _
    show ((rng x W.toNat).map fun c => cl c (w - 1)).map (fun c => itD (itD M (cl r (h - 1))) c) = _
    rw [List.map_map]
    rfl
end
/-! ### six weights -/
def dot (ws v : List Int) : Int := (((((itD ws 0 * itD v 0) + (itD ws 1 * itD v 1)) + (itD ws 2 * itD v 2)) + (itD ws 3 * itD v 3)) + (itD ws 4 * itD v 4)) + (itD ws 5 * itD v 5)
def WT : List (List Int) := [[0, 0, 64, 0, 0, 0], [1, -5, 52, 20, -5, 1], [2, -10, 40, 40, -10, 2], [1, -5, 20, 52, -5, 1]]
theorem wt_facts {k : Int} (h0 : 0 ≤ k) (h1 : k < 4) : (itD WT k).length = 6 ∧ ∀ j : Int, 0 ≤ j → j < 6 → -100 ≤ itD (itD WT k) j ∧ itD (itD WT k) j ≤ 100 := by
  have hm : itD WT k ∈ WT := itD_mem (by show -(4 : Int) ≤ k ∧ k < 4; omega)
  have key : ∀ r ∈ WT, r.length = 6 ∧ ∀ x ∈ r, -100 ≤ x ∧ x ≤ 100 := by decide
  obtain ⟨a, b⟩ := key _ hm
  exact ⟨a, fun j j0 j1 => b _ (itD_mem (by rw [a]; omega))⟩
theorem sixes (v : Int → Int) : (rng 0 6).map v = [v 0, v 1, v 2, v 3, v 4, v 5] := rfl
theorem weighted_eq {k : Int} (h0 : 0 ≤ k) (h1 : k < 4) {u : Int → Int → Int} {a b : Int} {n : Nat} (hn : n ≤ 1000) : F__weighted (itD WT k) ((rng a 6).map fun s => (rng b n).map fun c => u s c) = .ok ((rng b n).map fun c => dot (itD WT k) ((rng a 6).map fun s => u s c)) := by
  obtain ⟨hl, hb⟩ := wt_facts h0 h1
  refine Gv.get ?_
  unfold F__weighted
  refine Gv.bind_eq (a := (itD (itD WT k) 0, itD (itD WT k) 1, itD (itD WT k) 2, itD (itD WT k) 3, itD (itD WT k) 4, itD (itD WT k) 5)) (by rw [grd_pos hl]; rfl) ?_
  show Gv (F__weighted_k1 _ (itD (itD WT k) 0) (itD (itD WT k) 1) (itD (itD WT k) 2) (itD (itD WT k) 3) (itD (itD WT k) 4) (itD (itD WT k) 5)) _
  unfold F__weighted_k1
  refine Gv.grd (by rw [List.length_map, rng_len]; simp) (Gv.bind_eq (mapA_pure0 (g := fun v => dot (itD WT k) v) (fun v hv => ?_) ?_) (.ok ?_))
  · rw [zip_rows (by decide)] at hv
    obtain ⟨c, _, rfl⟩ := List.mem_map.mp hv
    have b0 := hb 0 (by decide) (by decide)
    have b1 := hb 1 (by decide) (by decide)
    have b2 := hb 2 (by decide) (by decide)
    have b3 := hb 3 (by decide) (by decide)
    have b4 := hb 4 (by decide) (by decide)
    have b5 := hb 5 (by decide) (by decide)
    unfold F__weighted_c2
    rw [grd_pos (by rw [List.length_map, rng_len]), grd_pos (.inl ⟨by omega, by omega⟩), grd_pos (.inl ⟨by omega, by omega⟩), grd_pos (.inl ⟨by omega, by omega⟩), grd_pos (.inl ⟨by omega, by omega⟩), grd_pos (.inl ⟨by omega, by omega⟩), grd_pos (.inl ⟨by omega, by omega⟩)]
    rfl
  · rw [zip_rows (by decide), List.length_map, rng_len]; omega
  · rw [zip_rows (by decide), List.map_map]
    rfl
/-- across a row, at column c -/
def hs (w h : Int) (M : List (List Int)) (f c r : Int) : Int := dot (itD WT f) ((rng 0 6).map fun s => val w h M (c + s) r)
/-- the value at a position in quarters -/
def qv (w h top : Int) (M : List (List Int)) (x y : Int) : Int := cl ((dot (itD WT (y % 4)) ((rng 0 6).map fun t => hs w h M (x % 4) (x / 4 - 2) (y / 4 - 2 + t)) + 2048) / 4096) top
theorem qv_zero {w h top : Int} {M : List (List Int)} (p : Pl w h top M) {x y : Int} (hx : x % 4 = 0) (hy : y % 4 = 0) : qv w h top M x y = val w h M (x / 4) (y / 4) := by
  have hv := p.val (x / 4) (y / 4)
  unfold qv hs
  rw [hx, hy]
  have e : dot (itD WT 0) ((rng 0 6).map fun t => dot (itD WT 0) ((rng 0 6).map fun s => val w h M (x / 4 - 2 + s) (y / 4 - 2 + t))) = 4096 * val w h M (x / 4) (y / 4) := by
    rw [sixes]
    simp only [sixes]
    show (((((0 * _) + (0 * _)) + (64 * ((((((0 * _) + (0 * _)) + (64 * val w h M (x / 4 - 2 + 2) (y / 4 - 2 + 2))) + (0 * _)) + (0 * _)) + (0 * _)))) + (0 * _)) + (0 * _)) + (0 * _) = _
    rw [show x / 4 - 2 + 2 = x / 4 by omega, show y / 4 - 2 + 2 = y / 4 by omega]
    omega
  rw [e]
  rw [show (4096 * val w h M (x / 4) (y / 4) + 2048) / 4096 = val w h M (x / 4) (y / 4) by omega]
  exact cl_id hv.1 hv.2
section
variable {w h top : Int} {M : List (List Int)}
theorem quarter_law (p : Pl w h top M) (x y : Int) : F__law_quarter M x y top = .ok (qv w h top M x y) := by
  have hx : 0 ≤ x % 4 ∧ x % 4 < 4 := by omega
  have hy : 0 ≤ y % 4 ∧ y % 4 < 4 := by omega
  obtain ⟨la, ba⟩ := wt_facts hx.1 hx.2
  obtain ⟨ld, bd⟩ := wt_facts hy.1 hy.2
  refine Gv.get ?_
  unfold F__law_quarter
  rw [mask2, mask2]
  change Gv (grd (-(4 : Int) ≤ x % 4 ∧ x % 4 < 4) <| grd (-(4 : Int) ≤ y % 4 ∧ y % 4 < 4) <| bnd (x / 4 - 2) fun i => bnd (y / 4 - 2) fun j => Rx.bind (forS (rng 0 6) 2048 (fun s t => F__law_quarter_b1 M (itD WT (x % 4)) (itD WT (y % 4)) i j s t)) fun s => F__law_quarter_r1 top s) _
  refine Gv.grd (by omega) (Gv.grd (by omega) (Gv.bnd fun i hi => Gv.bnd fun j hj => ?_))
  subst hi hj
  refine Gv.bind_eq (forS_pure (g := fun s t => s + itD (itD WT (y % 4)) t * hs w h M (x % 4) (x / 4 - 2) (y / 4 - 2 + t)) fun s t ht => ?_) (.ok ?_)
  · have ht := rng_mem ht
    have bt := bd t (by omega) (by omega)
    refine Gv.get ?_
    unfold F__law_quarter_b1
    refine Gv.grd (by rw [ld]; omega) (Gv.ite (fun c => .ok ?_) fun c => Gv.grd (by rw [ld]; omega) (Gv.bind_eq (mapA_pure0 (g := fun q => itD (itD WT (x % 4)) q * val w h M (x / 4 - 2 + q) (y / 4 - 2 + t)) (fun q hq => ?_) (by decide)) (Gv.grd (.inl ⟨by omega, by omega⟩) (Gv.bnd fun z hz => .ok ?_))))
    · rw [c, Int.zero_mul, Int.add_zero]
    · have hq := rng_mem hq
      have bq := ba q (by omega) (by omega)
      unfold F__law_quarter_c2
      rw [grd_pos (by rw [la]; omega), at_eq p, bind_ok, grd_pos (.inl ⟨by omega, by omega⟩)]
      rfl
    · subst hz
      congr 2
      show List.sum ((rng 0 6).map _) = hs w h M (x % 4) (x / 4 - 2) (y / 4 - 2 + t)
      unfold hs
      rw [sixes, sixes]
      unfold dot
      simp only [List.sum_cons, List.sum_nil]
      rw [show itD [val w h M (x / 4 - 2 + 0) (y / 4 - 2 + t), val w h M (x / 4 - 2 + 1) (y / 4 - 2 + t), val w h M (x / 4 - 2 + 2) (y / 4 - 2 + t), val w h M (x / 4 - 2 + 3) (y / 4 - 2 + t), val w h M (x / 4 - 2 + 4) (y / 4 - 2 + t), val w h M (x / 4 - 2 + 5) (y / 4 - 2 + t)] 0 = val w h M (x / 4 - 2 + 0) (y / 4 - 2 + t) from rfl,
        show itD [val w h M (x / 4 - 2 + 0) (y / 4 - 2 + t), val w h M (x / 4 - 2 + 1) (y / 4 - 2 + t), val w h M (x / 4 - 2 + 2) (y / 4 - 2 + t), val w h M (x / 4 - 2 + 3) (y / 4 - 2 + t), val w h M (x / 4 - 2 + 4) (y / 4 - 2 + t), val w h M (x / 4 - 2 + 5) (y / 4 - 2 + t)] 1 = val w h M (x / 4 - 2 + 1) (y / 4 - 2 + t) from rfl,
        show itD [val w h M (x / 4 - 2 + 0) (y / 4 - 2 + t), val w h M (x / 4 - 2 + 1) (y / 4 - 2 + t), val w h M (x / 4 - 2 + 2) (y / 4 - 2 + t), val w h M (x / 4 - 2 + 3) (y / 4 - 2 + t), val w h M (x / 4 - 2 + 4) (y / 4 - 2 + t), val w h M (x / 4 - 2 + 5) (y / 4 - 2 + t)] 2 = val w h M (x / 4 - 2 + 2) (y / 4 - 2 + t) from rfl,
        show itD [val w h M (x / 4 - 2 + 0) (y / 4 - 2 + t), val w h M (x / 4 - 2 + 1) (y / 4 - 2 + t), val w h M (x / 4 - 2 + 2) (y / 4 - 2 + t), val w h M (x / 4 - 2 + 3) (y / 4 - 2 + t), val w h M (x / 4 - 2 + 4) (y / 4 - 2 + t), val w h M (x / 4 - 2 + 5) (y / 4 - 2 + t)] 3 = val w h M (x / 4 - 2 + 3) (y / 4 - 2 + t) from rfl,
        show itD [val w h M (x / 4 - 2 + 0) (y / 4 - 2 + t), val w h M (x / 4 - 2 + 1) (y / 4 - 2 + t), val w h M (x / 4 - 2 + 2) (y / 4 - 2 + t), val w h M (x / 4 - 2 + 3) (y / 4 - 2 + t), val w h M (x / 4 - 2 + 4) (y / 4 - 2 + t), val w h M (x / 4 - 2 + 5) (y / 4 - 2 + t)] 4 = val w h M (x / 4 - 2 + 4) (y / 4 - 2 + t) from rfl,
        show itD [val w h M (x / 4 - 2 + 0) (y / 4 - 2 + t), val w h M (x / 4 - 2 + 1) (y / 4 - 2 + t), val w h M (x / 4 - 2 + 2) (y / 4 - 2 + t), val w h M (x / 4 - 2 + 3) (y / 4 - 2 + t), val w h M (x / 4 - 2 + 4) (y / 4 - 2 + t), val w h M (x / 4 - 2 + 5) (y / 4 - 2 + t)] 5 = val w h M (x / 4 - 2 + 5) (y / 4 - 2 + t) from rfl]
      omega
  · show cl (_ / 4096) top = _
    unfold qv
    congr 2
    rw [sixes]
    unfold dot
    show (((((2048 + itD (itD WT (y % 4)) 0 * hs w h M (x % 4) (x / 4 - 2) (y / 4 - 2 + 0)) + itD (itD WT (y % 4)) 1 * hs w h M (x % 4) (x / 4 - 2) (y / 4 - 2 + 1)) + itD (itD WT (y % 4)) 2 * hs w h M (x % 4) (x / 4 - 2) (y / 4 - 2 + 2)) + itD (itD WT (y % 4)) 3 * hs w h M (x % 4) (x / 4 - 2) (y / 4 - 2 + 3)) + itD (itD WT (y % 4)) 4 * hs w h M (x % 4) (x / 4 - 2) (y / 4 - 2 + 4)) + itD (itD WT (y % 4)) 5 * hs w h M (x % 4) (x / 4 - 2) (y / 4 - 2 + 5)
      = ((((((itD (itD WT (y % 4)) 0 * hs w h M (x % 4) (x / 4 - 2) (y / 4 - 2 + 0)) + (itD (itD WT (y % 4)) 1 * hs w h M (x % 4) (x / 4 - 2) (y / 4 - 2 + 1))) + (itD (itD WT (y % 4)) 2 * hs w h M (x % 4) (x / 4 - 2) (y / 4 - 2 + 2))) + (itD (itD WT (y % 4)) 3 * hs w h M (x % 4) (x / 4 - 2) (y / 4 - 2 + 3))) + (itD (itD WT (y % 4)) 4 * hs w h M (x % 4) (x / 4 - 2) (y / 4 - 2 + 4))) + (itD (itD WT (y % 4)) 5 * hs w h M (x % 4) (x / 4 - 2) (y / 4 - 2 + 5))) + 2048
    omega
/-! ### areas -/
theorem sums_eq {f X r0 : Int} {W H : Nat} (hf : 0 ≤ f ∧ f < 4) (hW : W ≤ 900) (hH : H ≤ 900) {b : List (List Int) → List Int → Rx (List (List Int))} (hb : ∀ s x, b s x = (grd ((0 : Int) ≤ f ∧ f < 4) <| Rx.bind (mapA (rng 0 6) [] (fun q => noEr (.ok (cutL x (some q) (some (q + (W : Int))))))) fun v => Rx.bind (F__weighted (itD WT f) v) fun v2 => grd (s.length ≤ 1000000) <| bnd (s ++ [v2]) fun y => .ok y)) :
    forS ((rng r0 H).map fun r => (rng X (W + 5)).map fun c => val w h M c r) [] b = .ok ((rng r0 H).map fun r => (rng X W).map fun c => hs w h M f c r) := by
  rw [forS_list (g := fun row => (rng 0 W).map fun c => dot (itD WT f) ((rng 0 6).map fun s => itD row (c + s))) (fun s x hx hs2 => ?_) [] (by rw [List.length_map, rng_len]; simp; omega)]
  · rw [List.nil_append, List.map_map]
    congr 1
    apply List.map_congr_left
    intro r _
    show (rng 0 W).map _ = (rng X W).map _
    refine rng_map_ext fun i hi => ?_
    show dot _ ((rng 0 6).map _) = dot _ ((rng 0 6).map _)
    congr 1
    apply List.map_congr_left
    intro s hs1
    have hs1 := rng_mem hs1
    rw [rng_map_itD (by omega) (by omega)]
    congr 1
    omega
  · obtain ⟨r, _, rfl⟩ := List.mem_map.mp hx
    refine Gv.get ?_
    rw [hb]
    have e : ∀ q ∈ rng 0 6, cutL ((rng X (W + 5)).map fun c => val w h M c r) (some q) (some (q + (W : Int))) = (rng 0 W).map fun c => itD ((rng X (W + 5)).map fun c => val w h M c r) (c + q) := by
      intro q hq
      have hq := rng_mem hq
      rw [cut_tab (by omega) (by omega)]
      refine rng_map_ext fun i hi => ?_
      rw [rng_map_itD (by omega) (by omega)]
      congr 1
      omega
    refine Gv.grd hf (Gv.bind_eq (mapA_pure0 (g := fun q => (rng 0 W).map fun c => itD ((rng X (W + 5)).map fun c => val w h M c r) (c + q)) (fun q hq => by rw [noEr_ok, e q hq]) (by decide)) (Gv.bind_eq (weighted_eq hf.1 hf.2 (by omega)) (Gv.grd hs2 (Gv.bnd fun y hy => .ok hy))))
theorem down_eq {f g X r0 : Int} {W H : Nat} (hg : 0 ≤ g ∧ g < 4) (hW : W ≤ 900) (hH : H ≤ 900) {c : Int → Rx (List Int)} (hc : ∀ t, c t = (grd ((0 : Int) ≤ g ∧ g < 4) <| Rx.bind (F__weighted (itD WT g) (cutL ((rng r0 (H + 5)).map fun r => (rng X W).map fun c => hs w h M f c r) (some t) (some (t + 6)))) fun v => Rx.bind (mapA v [] (fun x => noEr (Rx.bind (F_clip ((x + 2048) / 4096) 0 top) fun z => .ok z))) fun v2 => .ok v2)) :
    mapA (rng 0 H) [] (fun x => noEr (c x)) = .ok ((rng 0 H).map fun t => (rng X W).map fun c => cl ((dot (itD WT g) ((rng 0 6).map fun q => hs w h M f c (r0 + t + q)) + 2048) / 4096) top) := by
  rw [mapA_pure0 (g := fun t => (rng X W).map fun c => cl ((dot (itD WT g) ((rng 0 6).map fun q => hs w h M f c (r0 + t + q)) + 2048) / 4096) top) (fun t ht => ?_) (by rw [rng_len]; omega)]
  have ht := rng_mem ht
  rw [hc]
  have e : cutL ((rng r0 (H + 5)).map fun r => (rng X W).map fun c => hs w h M f c r) (some t) (some (t + 6)) = (rng (r0 + t) 6).map fun r => (rng X W).map fun c => hs w h M f c r := cut_tab (k := 6) (by omega) (by omega)
  rw [e, grd_pos hg, weighted_eq hg.1 hg.2 (by omega), bind_ok, mapA_pure0 (f := fun x => noEr ((F_clip ((x + 2048) / 4096) 0 top).bind fun z => Rx.ok z)) (g := fun x => cl ((x + 2048) / 4096) top) (fun x _ => rfl) (by rw [List.length_map, rng_len]; omega), bind_ok, noEr_ok, List.map_map]
  refine congrArg Rx.ok (List.map_congr_left fun c _ => ?_)
  show cl ((dot _ ((rng (r0 + t) 6).map _) + 2048) / 4096) top = cl ((dot _ ((rng 0 6).map _) + 2048) / 4096) top
  rw [rng_map_ext (a := r0 + t) (b := 0) (g := fun q => hs w h M f c (r0 + t + q)) (fun i _ => by rw [Int.zero_add])]
theorem qa_eq (p : Pl w h top M) {x y : Int} {W H : Nat} (hx : -100000 ≤ x ∧ x ≤ 100000) (hy : -100000 ≤ y ∧ y ≤ 100000) (hW : W ≤ 100) (hH : H ≤ 100) :
    F_quarter_area M x y W H top = .ok ((rng 0 H).map fun j => (rng 0 W).map fun i => qv w h top M (x + 4 * i) (y + 4 * j)) := by
  have fin : ((rng 0 H).map fun t => (rng (x / 4 - 2) W).map fun c => cl ((dot (itD WT (y % 4)) ((rng 0 6).map fun q => hs w h M (x % 4) c (y / 4 - 2 + t + q)) + 2048) / 4096) top) = (rng 0 H).map fun j => (rng 0 W).map fun i => qv w h top M (x + 4 * i) (y + 4 * j) := by
    apply List.map_congr_left
    intro j _
    refine rng_map_ext fun i _ => ?_
    unfold qv
    rw [show (y + 4 * j) % 4 = y % 4 by omega, show (y + 4 * j) / 4 = y / 4 + j by omega, show (x + 4 * (0 + (i : Int))) % 4 = x % 4 by omega, show (x + 4 * (0 + (i : Int))) / 4 = x / 4 + i by omega]
    rw [show x / 4 + (i : Int) - 2 = x / 4 - 2 + i by omega, show y / 4 + j - 2 = y / 4 - 2 + j by omega]
  have hf : 0 ≤ x % 4 ∧ x % 4 < 4 := by omega
  have hg : 0 ≤ y % 4 ∧ y % 4 < 4 := by omega
  have s1 := samples_eq p (x := x / 4 - 2) (y := y / 4 - 2) (W := W + 5) (H := H + 5) (by omega) (by omega) (by omega) (by omega)
  rw [show ((W : Int) + 5).toNat = W + 5 by omega, show ((H : Int) + 5).toNat = H + 5 by omega] at s1
  refine Gv.get ?_
  unfold F_quarter_area
  rw [mask2, mask2]
  refine Gv.bnd fun f hf2 => Gv.bnd fun g hg2 => ?_
  subst hf2 hg2
  refine Gv.ite (fun c1 => Gv.ite (fun c2 => ?_) fun c2 => ?_) fun c1 => ?_
  · refine Gv.bind_eq (samples_eq p (by omega) (by omega) (by omega) (by omega)) (.ok ?_)
    rw [Int.toNat_natCast, Int.toNat_natCast]
    refine rng_map_ext fun j _ => ?_
    show (rng (x / 4) W).map _ = (rng 0 W).map _
    refine rng_map_ext fun i _ => ?_
    rw [qv_zero p (by omega) (by omega)]
    congr 1 <;> omega
  · refine Gv.bind_eq s1 (Gv.bind_eq (sums_eq hf (by omega) (by omega) (fun s x => rfl)) ?_)
    unfold F_quarter_area_r1
    refine Gv.grd ⟨by omega, by omega⟩ ?_
    rw [Int.toNat_natCast]
    refine Gv.bind_eq (down_eq (top := top) (f := x % 4) hg (by omega) (by omega) (fun t => rfl)) (.ok fin)
  · refine Gv.bind_eq s1 (Gv.bind_eq (sums_eq hf (by omega) (by omega) (fun s x => rfl)) ?_)
    unfold F_quarter_area_r5
    refine Gv.grd ⟨by omega, by omega⟩ ?_
    rw [Int.toNat_natCast]
    refine Gv.bind_eq (down_eq (top := top) (f := x % 4) hg (by omega) (by omega) (fun t => rfl)) (.ok fin)
end
/-! ### eighths -/
def h8 (w h : Int) (M : List (List Int)) (f c r : Int) : Int := (8 - f) * val w h M c r + f * val w h M (c + 1) r
def ev8 (w h : Int) (M : List (List Int)) (x y : Int) : Int := ((8 - y % 8) * h8 w h M (x % 8) (x / 8) (y / 8) + (y % 8) * h8 w h M (x % 8) (x / 8) (y / 8 + 1) + 32) / 64
theorem mix8 {f a b t : Int} (hf : 0 ≤ f) (h8 : f < 8) (ha : 0 ≤ a ∧ a ≤ t) (hb : 0 ≤ b ∧ b ≤ t) : 0 ≤ (8 - f) * a + f * b ∧ (8 - f) * a + f * b ≤ 8 * t := by
  have : f = 0 ∨ f = 1 ∨ f = 2 ∨ f = 3 ∨ f = 4 ∨ f = 5 ∨ f = 6 ∨ f = 7 := by omega
  rcases this with rfl | rfl | rfl | rfl | rfl | rfl | rfl | rfl <;> omega
section
variable {w h top : Int} {M : List (List Int)}
theorem ev8_in (p : Pl w h top M) (x y : Int) : 0 ≤ ev8 w h M x y ∧ ev8 w h M x y ≤ top := by
  have a := fun r => mix8 (f := x % 8) (by omega) (by omega) (p.val (x / 8) r) (p.val (x / 8 + 1) r)
  have b := mix8 (f := y % 8) (by omega) (by omega) (a (y / 8)) (a (y / 8 + 1))
  unfold ev8 h8
  omega
theorem eighth_law (p : Pl w h top M) (x y : Int) : F__law_eighth M x y = .ok (ev8 w h M x y) := by
  refine Gv.get ?_
  unfold F__law_eighth
  rw [mask3, mask3]
  refine Gv.bnd fun f hf => Gv.bnd fun g hg => Gv.bnd fun i hi => Gv.bnd fun j hj => ?_
  subst hf hg hi hj
  refine Gv.bind_eq (at_eq p _ _) (Gv.grd (.inl ⟨by omega, by omega⟩) (Gv.bind_eq (at_eq p _ _) (Gv.grd (.inl ⟨by omega, by omega⟩) (Gv.bnd fun u hu => Gv.bind_eq (at_eq p _ _) (Gv.grd (.inl ⟨by omega, by omega⟩) (Gv.bind_eq (at_eq p _ _) (Gv.grd (.inl ⟨by omega, by omega⟩) (Gv.bnd fun l hl => Gv.grd (.inl ⟨by omega, by omega⟩) (Gv.grd (.inl ⟨by omega, by omega⟩) (.ok ?_))))))))))
  subst hu hl
  rfl
theorem ea_eq (p : Pl w h top M) {x y : Int} {W H : Nat} (t : Int) (hx : -100000 ≤ x ∧ x ≤ 100000) (hy : -100000 ≤ y ∧ y ≤ 100000) (hW : W ≤ 100) (hH : H ≤ 100) :
    F_eighth_area M x y W H t = .ok ((rng 0 H).map fun j => (rng 0 W).map fun i => ev8 w h M (x + 8 * i) (y + 8 * j)) := by
  have s1 := samples_eq p (x := x / 8) (y := y / 8) (W := W + 1) (H := H + 1) (by omega) (by omega) (by omega) (by omega)
  rw [show ((W : Int) + 1).toNat = W + 1 by omega, show ((H : Int) + 1).toNat = H + 1 by omega] at s1
  refine Gv.get ?_
  unfold F_eighth_area
  rw [mask3, mask3]
  refine Gv.bnd fun f hf2 => Gv.bnd fun g hg2 => ?_
  subst hf2 hg2
  have key : forS ((rng (y / 8) (H + 1)).map fun r => (rng (x / 8) (W + 1)).map fun c => val w h M c r) [] (fun s z => F_eighth_area_b1 (x % 8) s z) = .ok ((rng (y / 8) (H + 1)).map fun r => (rng (x / 8) W).map fun c => h8 w h M (x % 8) c r) := by
    rw [forS_list (g := fun row => (List.zip row (cutL row (some 1) none)).map fun z => (8 - x % 8) * z.1 + x % 8 * z.2) (fun s z hz hs2 => ?_) [] (by rw [List.length_map, rng_len]; simp; omega)]
    · rw [List.nil_append, List.map_map]
      congr 1
      apply List.map_congr_left
      intro r _
      show (List.zip ((rng (x / 8) (W + 1)).map _) (cutL ((rng (x / 8) (W + 1)).map _) (some 1) none)).map _ = _
      rw [zip_tab, List.map_map]
      rfl
    · obtain ⟨r, _, rfl⟩ := List.mem_map.mp hz
      refine Gv.get ?_
      unfold F_eighth_area_b1
      refine Gv.bind_eq (mapA_pure0 (g := fun z => (8 - x % 8) * z.1 + x % 8 * z.2) (fun z _ => ?_) (by rw [zip_tab, List.length_map, rng_len]; omega)) (Gv.grd hs2 (Gv.bnd fun q hq => .ok hq))
      unfold F_eighth_area_c2
      rw [grd_pos (.inl ⟨by omega, by omega⟩), grd_pos (.inl ⟨by omega, by omega⟩)]
      rfl
  refine Gv.bind_eq s1 (Gv.bind_eq key ?_)
  unfold F_eighth_area_r1
  rw [zip_tab]
  refine Gv.bind_eq (mapA_pure0 (g := fun q => (List.zip q.1 q.2).map fun z => ((8 - y % 8) * z.1 + y % 8 * z.2 + 32) / 64) (fun q hq => ?_) (by rw [List.length_map, rng_len]; omega)) (.ok ?_)
  · obtain ⟨r, _, rfl⟩ := List.mem_map.mp hq
    unfold F_eighth_area_c3
    rw [mapA_pure0 (f := fun z => noEr (F_eighth_area_c4 (y % 8) z)) (g := fun z => ((8 - y % 8) * z.1 + y % 8 * z.2 + 32) / 64) (fun z _ => ?_) (by rw [zip_tab2, List.length_map, rng_len]; omega)]
    · rfl
    · unfold F_eighth_area_c4
      rw [grd_pos (.inl ⟨by omega, by omega⟩), grd_pos (.inl ⟨by omega, by omega⟩)]
      rfl
  · rw [List.map_map]
    refine rng_map_ext fun j _ => ?_
    show (List.zip ((rng (x / 8) W).map _) ((rng (x / 8) W).map _)).map _ = _
    rw [zip_tab2, List.map_map]
    refine rng_map_ext fun i _ => ?_
    show ((8 - y % 8) * h8 w h M (x % 8) (x / 8 + i) (y / 8 + j) + y % 8 * h8 w h M (x % 8) (x / 8 + i) (y / 8 + j + 1) + 32) / 64 = _
    unfold ev8
    rw [show (x + 8 * (0 + (i : Int))) % 8 = x % 8 by omega, show (x + 8 * (0 + (i : Int))) / 8 = x / 8 + i by omega, show (y + 8 * (0 + (j : Int))) % 8 = y % 8 by omega, show (y + 8 * (0 + (j : Int))) / 8 = y / 8 + j by omega]
end
/-! the plane that a law draws -/
theorem Inb.allP {l : Int} : ∀ {vs ls : List Int}, Inb vs ls → (∀ y ∈ ls, y = l) → ∀ x ∈ vs, 0 ≤ x ∧ x < l
  | [], [], _, _, x, hx => nomatch hx
  | v :: vs, m :: ls, h, e, x, hx => by
    have em := e m List.mem_cons_self
    subst em
    rcases List.mem_cons.mp hx with rfl | hx
    · exact ⟨h.1, h.2.1⟩
    · exact Inb.allP h.2.2 (fun y hy => e y (List.mem_cons_of_mem _ hy)) x hx
theorem rep_one {v k x : Int} (h : x ∈ repL [v] k) : x = v := by
  unfold repL at h
  obtain ⟨l, hl, hx⟩ := List.mem_flatten.mp h
  rw [(List.mem_replicate.mp hl).2] at hx
  exact List.mem_singleton.mp hx
theorem rep_lenP {v k : Int} (h : 0 ≤ k) : ((repL [v] k).length : Int) = k := by
  unfold repL
  obtain ⟨j, rfl⟩ : ∃ j : Nat, k = (j : Int) := ⟨k.toNat, by omega⟩
  rw [Int.toNat_natCast]
  have : (List.replicate j [v]).flatten.length = j := by
    induction j with
    | zero => rfl
    | succ j ih =>
      rw [List.replicate_succ, List.flatten_cons, List.length_append, ih (by omega)]
      simp
      omega
  rw [this]
theorem one_4096 : -(2 ^ 4096) < (1 : Int) ∧ (1 : Int) < 2 ^ 4096 := by
  have h : (0 : Int) < 2 ^ 4095 := Int.pow_pos (by decide)
  have e : (2 : Int) ^ 4096 = 2 ^ 4095 * 2 := Int.pow_succ 2 4095
  generalize (2 : Int) ^ 4095 = z at h e
  generalize (2 : Int) ^ 4096 = y at e ⊢
  omega
theorem top_b {d : Int} (h0 : 0 ≤ d) (h1 : d < 5) : 255 ≤ 1 * 2 ^ Int.toNat (8 + d) - (1 : Int) ∧ 1 * 2 ^ Int.toNat (8 + d) - (1 : Int) ≤ 4095 := by
  have : d = 0 ∨ d = 1 ∨ d = 2 ∨ d = 3 ∨ d = 4 := by omega
  rcases this with rfl | rfl | rfl | rfl | rfl <;> decide
theorem plane_gv (cell : Int) {w h top : Int} (hw : 1 ≤ w ∧ w ≤ 100) (hh : 1 ≤ h ∧ h ≤ 100) (ht : 0 ≤ top ∧ top ≤ 4095) : Gv (F__law_plane cell w h top) (Pl w h top) := by
  have hn0 : 1 ≤ w * h := by have := Int.mul_le_mul hw.1 hh.1 (by decide) (by omega); simpa using this
  have hn1 : w * h ≤ 10000 := by have := Int.mul_le_mul hw.2 hh.2 (by omega) (by decide); simpa using this
  have D : ∀ (v : List Int), (v.length : Int) = w * h → (∀ x ∈ v, 0 ≤ x ∧ x ≤ top) → Gv (F__law_plane_k4 w h v) (Pl w h top) := by
    intro v hl hb
    unfold F__law_plane_k4
    refine Gv.grd ⟨by omega, by omega⟩ (Gv.bind_eq (mapA_pure0 (g := fun j => cutL v (some (j * w)) (some ((j + 1) * w))) (fun j hj => ?_) (by rw [rng_len]; omega)) (.ok ⟨hw.1, hh.1, by rw [List.length_map, rng_len]; omega, fun r hr => ?_, fun r hr x hx => ?_⟩))
    · unfold F__law_plane_c6
      rw [grd_pos (.inr ⟨by omega, by omega⟩), grd_pos (.inr ⟨by omega, by omega⟩)]
      rfl
    · obtain ⟨j, hj, rfl⟩ := List.mem_map.mp hr
      have hj := rng_mem hj
      have a0 : 0 ≤ j * w := Int.mul_nonneg (by omega) (by omega)
      have a1 : (j + 1) * w = j * w + w := by rw [Int.add_mul, Int.one_mul]
      have a2 : (j + 1) * w ≤ h * w := Int.mul_le_mul_of_nonneg_right (by omega) (by omega)
      rw [Int.mul_comm h w] at a2
      unfold cutL
      rw [sIx_at a0 (by omega), sIx_at (by omega) (by omega), List.length_take, List.length_drop]
      omega
    · obtain ⟨j, hj, rfl⟩ := List.mem_map.mp hr
      unfold cutL at hx
      exact hb x (List.mem_of_mem_drop (List.mem_of_mem_take hx))
  unfold F__law_plane
  refine Gv.bnd fun kind _ => Gv.grd (.inl ⟨by omega, by omega⟩) (Gv.grd ⟨by omega, by omega, by show 1 * _ ≤ _; omega⟩ (Gv.bind (draws_gv _ _ (fun l hl => ?_) ?_) fun v hv => ?_))
  · rw [rep_one hl]; omega
  · have := rep_lenP (v := top + 1) (k := w * h) (by omega)
    omega
  have hvl : (v.length : Int) = w * h := by rw [hv.len]; exact rep_lenP (by omega)
  have hvb : ∀ x ∈ v, 0 ≤ x ∧ x ≤ top := fun x hx => by have := hv.allP (l := top + 1) (fun y hy => rep_one hy) x hx; omega
  refine Gv.bind (P := fun v => (v.length : Int) = w * h ∧ ∀ x ∈ v, 0 ≤ x ∧ x ≤ top) (Gv.ite (fun _ => Gv.grd (by omega) (Gv.grd (.inl ⟨by omega, by omega⟩) (Gv.grd ⟨by omega, by omega, by show 1 * _ ≤ _; omega⟩ (.ok ⟨rep_lenP (by omega), fun x hx => ?_⟩)))) fun _ => .ok ⟨hvl, hvb⟩) fun v1 h1 => ?_
  · rw [rep_one hx]
    exact hvb _ (itD_mem (by omega))
  unfold F__law_plane_k1
  refine Gv.bind (P := fun v => (v.length : Int) = w * h ∧ ∀ x ∈ v, 0 ≤ x ∧ x ≤ top) (Gv.ite (fun _ => Gv.grd (.inl ⟨by omega, by omega⟩) (Gv.grd ⟨by omega, by omega⟩ (Gv.bind_eq (mapA_pure0 (g := fun k => (itD v1 0 + 7 * k) % (top + 1)) (fun k _ => ?_) (by rw [rng_len]; omega)) (.ok ⟨by rw [List.length_map, rng_len]; omega, fun x hx => ?_⟩)))) fun _ => .ok h1) fun v2 h2 => ?_
  · unfold F__law_plane_c3
    rw [grd_pos (by have := h1.1; omega), grd_pos (by omega)]
    rfl
  · obtain ⟨k, _, rfl⟩ := List.mem_map.mp hx
    have a := Int.emod_nonneg (itD v1 0 + 7 * k) (show top + 1 ≠ 0 by omega)
    have b := Int.emod_lt_of_pos (itD v1 0 + 7 * k) (show 0 < top + 1 by omega)
    omega
  unfold F__law_plane_k2
  refine Gv.bind (P := fun v => (v.length : Int) = w * h ∧ ∀ x ∈ v, 0 ≤ x ∧ x ≤ top) (Gv.ite (fun _ => Gv.bind_eq (mapA_pure0 (g := fun k => top * (k % 2)) (fun k _ => ?_) (by have := h2.1; omega)) (.ok ⟨by rw [List.length_map]; exact h2.1, fun x hx => ?_⟩)) fun _ => .ok h2) fun v3 h3 => D v3 h3.1 h3.2
  · unfold F__law_plane_c5
    rw [grd_pos (.inl ⟨by omega, by omega⟩)]
    rfl
  · obtain ⟨k, _, rfl⟩ := List.mem_map.mp hx
    have : k % 2 = 0 ∨ k % 2 = 1 := by omega
    rcases this with e | e <;> rw [e] <;> omega
theorem plane_list {M : List (List Int)} (h : M.length ≤ 1000000) {f : List Int → Rx (List Int)} (hf : ∀ x, f x = .ok x) : mapA M [] f = .ok M := by
  rw [mapA_pure0 (g := id) (fun x _ => hf x) h, List.map_id]
theorem tab_row {f : Int → Int → Int} {W H : Nat} {k : Int} (h : -(H : Int) ≤ k ∧ k < H) : (itD ((rng 0 H).map fun j => (rng 0 W).map fun i => f j i) k).length = W := by
  have hm := itD_mem (xs := (rng 0 H).map fun j => (rng 0 W).map fun i => f j i) (k := k) (by rw [List.length_map, rng_len]; exact h)
  obtain ⟨j, _, e⟩ := List.mem_map.mp hm
  rw [← e, List.length_map, rng_len]
theorem k3_ok {w h top : Int} {M : List (List Int)} (p : Pl w h top M) {x y a0 a1 a2 a3 a4 a5 a6 : Int} (hx : -10000 ≤ x ∧ x ≤ 10000) (hy : -10000 ≤ y ∧ y ≤ 10000) (h5 : 0 ≤ a5 ∧ a5 < 8) (h6 : 0 ≤ a6 ∧ a6 < 8) : F_law_k3 top M M [a0, a1, a2, a3, a4, a5, a6] x y = .ok (.go ()) := by
  have g : ∀ k : Int, 0 ≤ k → k < 7 → -((([a0, a1, a2, a3, a4, a5, a6] : List Int).length : Nat) : Int) ≤ k ∧ k < ((([a0, a1, a2, a3, a4, a5, a6] : List Int).length : Nat) : Int) := fun k x y => ⟨by show -(7 : Int) ≤ k; omega, by show k < (7 : Int); omega⟩
  refine Gv.get ?_
  unfold F_law_k3
  refine Gv.grd (g 5 (by decide) (by decide)) (Gv.bnd fun W hW => Gv.grd (g 6 (by decide) (by decide)) (Gv.bnd fun H hH => ?_))
  have hW : W = 1 + a5 := hW
  have hH : H = 1 + a6 := hH
  obtain ⟨wn, rfl⟩ : ∃ n : Nat, W = (n : Int) := ⟨W.toNat, by omega⟩
  obtain ⟨hn, rfl⟩ : ∃ n : Nat, H = (n : Int) := ⟨H.toNat, by omega⟩
  have w1 : 1 ≤ wn ∧ wn ≤ 8 := by omega
  have h1 : 1 ≤ hn ∧ hn ≤ 8 := by omega
  have lenr : ∀ {f : Int → Int → Int}, ((((rng 0 hn).map fun j => (rng 0 wn).map fun i => f j i).length : Nat) : Int) = hn := by intro f; rw [List.length_map, rng_len]
  refine Gv.grd ⟨by omega, by omega⟩ ?_
  rw [Int.toNat_natCast]
  refine Gv.bind_eq (mapA_pure0 (g := fun j => (rng 0 wn).map fun i => qv w h top M (x + 4 * i) (y + 4 * j)) (fun j _ => ?_) (by rw [rng_len]; omega)) (Gv.bind_eq (qa_eq p (by omega) (by omega) (by omega) (by omega)) (Gv.pos rfl (Gv.bind_eq (plane_list (by rw [List.length_map, rng_len]; omega) (fun x => rfl)) ?_)))
  · unfold F_law_c4
    rw [grd_pos ⟨by omega, by omega⟩, Int.toNat_natCast, mapA_pure0 (f := fun i => noEr (F_law_c5 top M x y j i)) (g := fun i => qv w h top M (x + 4 * i) (y + 4 * j)) (fun i _ => ?_) (by rw [rng_len]; omega)]
    · rfl
    · unfold F_law_c5
      rw [quarter_law p]
      rfl
  refine Gv.grd (by rw [lenr]; omega) (Gv.grd (by rw [tab_row (by omega)]; omega) (Gv.bnd fun A hA => Gv.grd (by rw [lenr]; omega) (Gv.grd (by rw [tab_row (by omega)]; omega) (Gv.bnd fun B hB => Gv.pos (hA.trans hB.symm) (Gv.grd ⟨by omega, by omega⟩ ?_)))))
  refine Gv.bind_eq (mapA_pure0 (g := fun j => (rng 0 wn).map fun i => ev8 w h M (x + 8 * i) (y + 8 * j)) (fun j _ => ?_) (by rw [rng_len]; omega)) (Gv.bind_eq (ea_eq p top (by omega) (by omega) (by omega) (by omega)) (Gv.pos rfl (Gv.pos rfl (Gv.bind_eq (plane_list (by rw [List.length_map, rng_len]; omega) (fun x => rfl)) ?_))))
  · unfold F_law_c7
    rw [grd_pos ⟨by omega, by omega⟩, Int.toNat_natCast, mapA_pure0 (f := fun i => noEr (F_law_c8 M x y j i)) (g := fun i => ev8 w h M (x + 8 * i) (y + 8 * j)) (fun i _ => ?_) (by rw [rng_len]; omega)]
    · rfl
    · unfold F_law_c8
      rw [eighth_law p]
      rfl
  exact Gv.grd (by rw [lenr]; omega) (Gv.grd (by rw [tab_row (by omega)]; omega) (Gv.bnd fun A2 hA2 => Gv.grd (by rw [lenr]; omega) (Gv.grd (by rw [tab_row (by omega)]; omega) (Gv.bnd fun B2 hB2 => Gv.pos (hA2.trans hB2.symm) (Gv.pos rfl (Gv.bind_eq (ea_eq p top (by omega) (by omega) (by omega) (by omega)) (Gv.pos rfl (.ok rfl))))))))
theorem b2_ok {w h top : Int} {M : List (List Int)} (p : Pl w h top M) (cell : Int) : F_law_b2 top M M cell = .ok (.go ()) := by
  refine Gv.get ?_
  unfold F_law_b2
  refine Gv.bind (draws_gv _ _ (by decide) (by decide)) fun v hv => ?_
  obtain ⟨a0, r0, rfl, h0, h0', q0⟩ := hv.cons
  obtain ⟨a1, r1, rfl, h1, h1', q1⟩ := q0.cons
  obtain ⟨a2, r2, rfl, h2, h2', q2⟩ := q1.cons
  obtain ⟨a3, r3, rfl, h3, h3', q3⟩ := q2.cons
  obtain ⟨a4, r4, rfl, h4, h4', q4⟩ := q3.cons
  obtain ⟨a5, r5, rfl, h5, h5', q5⟩ := q4.cons
  obtain ⟨a6, r6, rfl, h6, h6', q6⟩ := q5.cons
  obtain rfl := q6.nil
  have g : ∀ k : Int, 0 ≤ k → k < 7 → -((([a0, a1, a2, a3, a4, a5, a6] : List Int).length : Nat) : Int) ≤ k ∧ k < ((([a0, a1, a2, a3, a4, a5, a6] : List Int).length : Nat) : Int) := fun k x y => ⟨by show -(7 : Int) ≤ k; omega, by show k < (7 : Int); omega⟩
  refine Gv.grd (g 1 (by decide) (by decide)) (Gv.bnd fun x hx => Gv.grd (g 2 (by decide) (by decide)) (Gv.bnd fun y hy => ?_))
  have hx : x = a1 - 20 := hx
  have hy : y = a2 - 20 := hy
  refine Gv.bind (P := fun s => (-10000 ≤ s.1 ∧ s.1 ≤ 10000) ∧ -10000 ≤ s.2 ∧ s.2 ≤ 10000) (Gv.grd (g 0 (by decide) (by decide)) (Gv.ite (fun _ => Gv.grd (g 3 (by decide) (by decide)) (Gv.bnd fun x2 hx2 => Gv.grd (g 4 (by decide) (by decide)) (Gv.bnd fun y2 hy2 => .ok ?_))) fun _ => .ok ?_)) fun s hs1 => .of_eq (k3_ok p hs1.1 hs1.2 ⟨h5, h5'⟩ ⟨h6, h6'⟩) rfl
  · have hx2 : x2 = a3 - 2500 := hx2
    have hy2 : y2 = a4 - 2500 := hy2
    show (-10000 ≤ x2 ∧ x2 ≤ 10000) ∧ -10000 ≤ y2 ∧ y2 ≤ 10000
    omega
  · show (-10000 ≤ x ∧ x ≤ 10000) ∧ -10000 ≤ y ∧ y ≤ 10000
    omega
theorem law_true (xs : List Int) (h : xs.length ≤ 63) : F_law xs = .ok true := by
  have cell : ∀ k : Int, 0 ≤ k → Gv (F__law_cell xs k) (fun _ => True) := fun k hk => by
    unfold F__law_cell
    exact Gv.ite (fun c => Gv.grd ⟨by omega, c⟩ (.ok trivial)) fun _ => .ok trivial
  refine Gv.get ?_
  unfold F_law
  refine Gv.bind (cell 0 (by decide)) fun c0 _ => Gv.bind (draws_gv _ _ (by decide) (by decide)) fun v hv => ?_
  obtain ⟨a0, r0, rfl, h0, h0', q0⟩ := hv.cons
  obtain ⟨a1, r1, rfl, h1, h1', q1⟩ := q0.cons
  obtain ⟨a2, r2, rfl, h2, h2', q2⟩ := q1.cons
  obtain rfl := q2.nil
  have g : ∀ k : Int, 0 ≤ k → k < 3 → -((([a0, a1, a2] : List Int).length : Nat) : Int) ≤ k ∧ k < ((([a0, a1, a2] : List Int).length : Nat) : Int) := fun k x y => ⟨by show -(3 : Int) ≤ k; omega, by show k < (3 : Int); omega⟩
  refine Gv.grd (g 2 (by decide) (by decide)) ?_
  rw [show itD [a0, a1, a2] 2 = a2 from rfl]
  have ht := top_b h2 h2'
  refine Gv.grd ⟨by omega, by omega, one_4096⟩ (Gv.bnd fun top htop => Gv.bind (cell 1 (by decide)) fun c1 _ => ?_)
  rw [← htop] at ht
  refine Gv.grd (g 0 (by decide) (by decide)) (Gv.grd (g 1 (by decide) (by decide)) ?_)
  rw [show itD [a0, a1, a2] 0 = a0 from rfl, show itD [a0, a1, a2] 1 = a1 from rfl]
  refine Gv.bind (plane_gv c1 (w := 1 + a0) (h := 1 + a1) (top := top) (by omega) (by omega) (by omega)) fun M p => ?_
  have hl : M.length ≤ 1000000 := by have := p.2.2.1; omega
  refine Gv.bind_eq (plane_list hl (fun x => rfl)) (Gv.grd ?_ (Gv.bind_eq (forR_unit fun x _ => b2_ok p x) (.ok rfl)))
  have : (cutL xs (some 2) none).length ≤ xs.length := by
    unfold cutL
    rw [List.length_take, List.length_drop]
    omega
  show 1 + _ ≤ _
  omega

end Vx
namespace Vx
open PySem PySem.Spec PyProof.Rows L2
def topS (i : Nat) : Stmt := PySem.Challenge.pw_thaumatrope_k36_areas_of_values.main.body.getD i (.Pass ⟨0, 0, 0, 0⟩)
abbrev s__law_draws : Stmt := topS 10
abbrev s__law_plane : Stmt := topS 11
abbrev s__law_cell : Stmt := topS 9
abbrev s_clip : Stmt := topS 1
abbrev s__samples : Stmt := topS 6
abbrev s__weighted : Stmt := topS 7
abbrev s_quarter_area : Stmt := topS 4
abbrev s_eighth_area : Stmt := topS 5
abbrev s__law_at : Stmt := topS 12
abbrev s__law_quarter : Stmt := topS 13
abbrev s__law_eighth : Stmt := topS 14
abbrev s_law : Stmt := topS 15
structure Ads where
  t_WEIGHTS : Addr
  t_WEIGHTS_0 : Addr
  t_WEIGHTS_1 : Addr
  t_WEIGHTS_2 : Addr
  t_WEIGHTS_3 : Addr
  z0 : Addr
def excA (AD : Ads) : Nat → Addr
  | _ => AD.z0
structure Txt (K : PySem.W.Frag) (mg : Str → Option Value) (AD : Ads) : Prop where
  b_abs : mg "abs" = none
  b_int : mg "int" = none
  b_range : mg "range" = none
  b_len : mg "len" = none
  b_min : mg "min" = none
  b_max : mg "max" = none
  b_zip : mg "zip" = none
  g_WEIGHTS : ∃ u, mg "WEIGHTS" = some u ∧ RelV (V.ref AD.t_WEIGHTS) u
  ts_WEIGHTS : ∀ H, SqT K H AD.t_WEIGHTS (([AD.t_WEIGHTS_0, AD.t_WEIGHTS_1, AD.t_WEIGHTS_2, AD.t_WEIGHTS_3] : List Addr).map V.ref)
  tt_WEIGHTS : ∀ k : Int, 0 ≤ k → k < 4 → ∀ H, SqT K H (itD ([AD.t_WEIGHTS_0, AD.t_WEIGHTS_1, AD.t_WEIGHTS_2, AD.t_WEIGHTS_3] : List Addr) k) ((itD ([[0, 0, 64, 0, 0, 0], [1, -5, 52, 20, -5, 1], [2, -10, 40, 40, -10, 2], [1, -5, 20, 52, -5, 1]] : List (List Int)) k).map V.int)
  b_sum : mg "sum" = none
  b_list : mg "list" = none
  b_isinstance : mg "isinstance" = none
abbrev pat__law_draws_0 : Pat := (2, [], fun vs _ => vs)
abbrev pats__law_draws : List Pat := [pat__law_draws_0]
abbrev pat__law_plane_0 : Pat := (4, [], fun vs _ => vs)
abbrev pats__law_plane : List Pat := [pat__law_plane_0]
abbrev pat__law_cell_0 : Pat := (2, [], fun vs _ => vs)
abbrev pats__law_cell : List Pat := [pat__law_cell_0]
abbrev pat_clip_0 : Pat := (3, [], fun vs _ => vs)
abbrev pats_clip : List Pat := [pat_clip_0]
abbrev pat__samples_0 : Pat := (5, [], fun vs _ => vs)
abbrev pats__samples : List Pat := [pat__samples_0]
abbrev pat__weighted_0 : Pat := (2, [], fun vs _ => vs)
abbrev pats__weighted : List Pat := [pat__weighted_0]
abbrev pat_quarter_area_0 : Pat := (5, ["top"], fun vs zs => match vs, zs with | [a0, a1, a2, a3, a4], [b0] => [a0, a1, a2, a3, a4, b0] | _, _ => [])
abbrev pats_quarter_area : List Pat := [pat_quarter_area_0]
abbrev pat_eighth_area_0 : Pat := (5, ["top"], fun vs zs => match vs, zs with | [a0, a1, a2, a3, a4], [b0] => [a0, a1, a2, a3, a4, b0] | _, _ => [])
abbrev pats_eighth_area : List Pat := [pat_eighth_area_0]
abbrev pat__law_at_0 : Pat := (3, [], fun vs _ => vs)
abbrev pats__law_at : List Pat := [pat__law_at_0]
abbrev pat__law_quarter_0 : Pat := (4, [], fun vs _ => vs)
abbrev pats__law_quarter : List Pat := [pat__law_quarter_0]
abbrev pat__law_eighth_0 : Pat := (3, [], fun vs _ => vs)
abbrev pats__law_eighth : List Pat := [pat__law_eighth_0]
abbrev pats_law : List Pat := []
def sp__law_draws (K : PySem.W.Frag) (AD : Ads) : Sp := fun vs H Q E => ∃ (G : Hp) (cell' : Int) (a_limits : Addr) (limits' : List Int), vs = [.int cell', .ref a_limits] ∧ Same G H ∧ (hideL [] H) a_limits = some (.lst ((limits' : List Int).map V.int)) ∧ cW (F__law_draws cell' limits') (fun v => ∀ p H', H p = none → Same H H' → H' p = some (.lst (v.map V.int)) → Q (.ref p) H') (fun e => ∀ H', Same H H' → E (.ref (excA AD e)) none H')
def sp__law_plane (K : PySem.W.Frag) (AD : Ads) : Sp := fun vs H Q E => ∃ (G : Hp) (cell' : Int) (width' : Int) (height' : Int) (top' : Int), vs = [.int cell', .int width', .int height', .int top'] ∧ Same G H ∧ cW (F__law_plane cell' width' height' top') (fun v => ∀ (H' : Hp) (a : Addr) (vs : List V) (L : List Addr) (G' : Hp), H a = none → (∀ b ∈ L, H b = none) → (∀ b ∈ L, b ≠ a) → Same H H' → Same G G' → Same G' H' → (∀ b, H b ≠ none → G b = none → G' b = none) → G' a = none → (∀ b ∈ L, G' b = none) → H' a = some (.lst vs) → OwAll G' H' L vs ((v : (List (List Int))).map (oL oI)) → Q (.ref a) H') (fun e => ∀ H', Same H H' → E (.ref (excA AD e)) none H')
def sp__law_cell (K : PySem.W.Frag) (AD : Ads) : Sp := fun vs H Q E => ∃ (G : Hp) (a_script : Addr) (script' : List Int) (k' : Int), vs = [.ref a_script, .int k'] ∧ Same G H ∧ SqL K H a_script ((script' : List Int).map V.int) ∧ cW (F__law_cell script' k') (fun v => Q (.int v) H) (fun e => E (.ref (excA AD e)) none H)
def sp_clip (K : PySem.W.Frag) (AD : Ads) : Sp := fun vs H Q E => ∃ (G : Hp) (value' : Int) (low' : Int) (high' : Int), vs = [.int value', .int low', .int high'] ∧ Same G H ∧ cW (F_clip value' low' high') (fun v => Q (.int v) H) (fun e => E (.ref (excA AD e)) none H)
def sp__samples (K : PySem.W.Frag) (AD : Ads) : Sp := fun vs H Q E => ∃ (G : Hp) (v_plane : V) (plane' : (List (List Int))) (x' : Int) (y' : Int) (width' : Int) (height' : Int), vs = [v_plane, .int x', .int y', .int width', .int height'] ∧ Same G H ∧ Rp (hideL [] H) v_plane ((encL (encL PyData.int)) plane') ∧ cW (F__samples plane' x' y' width' height') (fun v => ∀ (H' : Hp) (a : Addr) (vs : List V) (L : List Addr) (G' : Hp), H a = none → (∀ b ∈ L, H b = none) → (∀ b ∈ L, b ≠ a) → Same H H' → Same G G' → Same G' H' → (∀ b, H b ≠ none → G b = none → G' b = none) → G' a = none → (∀ b ∈ L, G' b = none) → H' a = some (.lst vs) → OwAll G' H' L vs ((v : (List (List Int))).map (oL oI)) → Q (.ref a) H') (fun e => ∀ H', Same H H' → E (.ref (excA AD e)) none H')
def sp__weighted (K : PySem.W.Frag) (AD : Ads) : Sp := fun vs H Q E => ∃ (G : Hp) (a_weights : Addr) (weights' : List Int) (v_lines : V) (lines' : (List (List Int))), vs = [.ref a_weights, v_lines] ∧ Same G H ∧ (∀ H, SqT K H a_weights ((weights' : List Int).map V.int)) ∧ Rp (hideL [] H) v_lines ((encL (encL PyData.int)) lines') ∧ cW (F__weighted weights' lines') (fun v => ∀ p H', H p = none → Same H H' → H' p = some (.lst (v.map V.int)) → Q (.ref p) H') (fun e => ∀ H', Same H H' → E (.ref (excA AD e)) none H')
def sp_quarter_area (K : PySem.W.Frag) (AD : Ads) : Sp := fun vs H Q E => ∃ (G : Hp) (v_plane : V) (plane' : (List (List Int))) (x' : Int) (y' : Int) (width' : Int) (height' : Int) (top' : Int), vs = [v_plane, .int x', .int y', .int width', .int height', .int top'] ∧ Same G H ∧ Rp (hideL [] H) v_plane ((encL (encL PyData.int)) plane') ∧ cW (F_quarter_area plane' x' y' width' height' top') (fun v => ∀ (H' : Hp) (a : Addr) (vs : List V) (L : List Addr) (G' : Hp), H a = none → (∀ b ∈ L, H b = none) → (∀ b ∈ L, b ≠ a) → Same H H' → Same G G' → Same G' H' → (∀ b, H b ≠ none → G b = none → G' b = none) → G' a = none → (∀ b ∈ L, G' b = none) → H' a = some (.lst vs) → OwAll G' H' L vs ((v : (List (List Int))).map (oL oI)) → Q (.ref a) H') (fun e => ∀ H', Same H H' → E (.ref (excA AD e)) none H')
def sp_eighth_area (K : PySem.W.Frag) (AD : Ads) : Sp := fun vs H Q E => ∃ (G : Hp) (v_plane : V) (plane' : (List (List Int))) (x' : Int) (y' : Int) (width' : Int) (height' : Int) (top' : Int), vs = [v_plane, .int x', .int y', .int width', .int height', .int top'] ∧ Same G H ∧ Rp (hideL [] H) v_plane ((encL (encL PyData.int)) plane') ∧ cW (F_eighth_area plane' x' y' width' height' top') (fun v => ∀ (H' : Hp) (a : Addr) (vs : List V) (L : List Addr) (G' : Hp), H a = none → (∀ b ∈ L, H b = none) → (∀ b ∈ L, b ≠ a) → Same H H' → Same G G' → Same G' H' → (∀ b, H b ≠ none → G b = none → G' b = none) → G' a = none → (∀ b ∈ L, G' b = none) → H' a = some (.lst vs) → OwAll G' H' L vs ((v : (List (List Int))).map (oL oI)) → Q (.ref a) H') (fun e => ∀ H', Same H H' → E (.ref (excA AD e)) none H')
def sp__law_at (K : PySem.W.Frag) (AD : Ads) : Sp := fun vs H Q E => ∃ (G : Hp) (v_plane : V) (plane' : (List (List Int))) (x' : Int) (y' : Int), vs = [v_plane, .int x', .int y'] ∧ Same G H ∧ Rp (hideL [] H) v_plane ((encL (encL PyData.int)) plane') ∧ cW (F__law_at plane' x' y') (fun v => Q (.int v) H) (fun e => E (.ref (excA AD e)) none H)
def sp__law_quarter (K : PySem.W.Frag) (AD : Ads) : Sp := fun vs H Q E => ∃ (G : Hp) (v_plane : V) (plane' : (List (List Int))) (x' : Int) (y' : Int) (top' : Int), vs = [v_plane, .int x', .int y', .int top'] ∧ Same G H ∧ Rp (hideL [] H) v_plane ((encL (encL PyData.int)) plane') ∧ cW (F__law_quarter plane' x' y' top') (fun v => ∀ H', Same H H' → Q (.int v) H') (fun e => ∀ H', Same H H' → E (.ref (excA AD e)) none H')
def sp__law_eighth (K : PySem.W.Frag) (AD : Ads) : Sp := fun vs H Q E => ∃ (G : Hp) (v_plane : V) (plane' : (List (List Int))) (x' : Int) (y' : Int), vs = [v_plane, .int x', .int y'] ∧ Same G H ∧ Rp (hideL [] H) v_plane ((encL (encL PyData.int)) plane') ∧ cW (F__law_eighth plane' x' y') (fun v => Q (.int v) H) (fun e => E (.ref (excA AD e)) none H)
def sp_law (K : PySem.W.Frag) (AD : Ads) : Sp := fun vs H Q E => ∃ (a_script : Addr) (script : List Int), vs = [.ref a_script] ∧ SqL K H a_script (script.map V.int) ∧ cW (F_law script) (fun v => v = true) (fun _ => False) ∧ ∀ H', Q (.bl true) H'
section
variable {P : Program} {w : World} {K : PySem.W.Frag} {mg : Str → Option Value} {base : Heap} {AD : Ads}
abbrev N__law_draws : List Str := ["cell", "limits", "found", "rest", "state", "free", "limit"]
theorem sc__law_draws : FnScope N__law_draws ["cell", "limits"] (defScope s__law_draws) := ⟨rfl, rfl, rfl, by decide +kernel, rfl, by decide +kernel, by decide +kernel⟩
theorem ok__law_draws (D : DefX K mg "_law_draws" s__law_draws ["cell", "limits"] pats__law_draws) (T : Txt K mg AD)  : CalX P w K mg base 1 "_law_draws" (sp__law_draws K AD) pats__law_draws := by
  refine D.ok sc__law_draws (fun vs H Q E h => ?_) (fun f cdv A_ outer s H vs Q E hr h => ?_)
  · obtain ⟨G, cell', a_limits, limits', rfl, _⟩ := h
    rfl
  · obtain ⟨G, cell', a_limits, limits', rfl, sG, q_limits, hw⟩ := h
    refine ⟨_, (pss_cons (ps_set (i := 2) sc__law_draws.nd rfl (Or.inl rfl) (pe_lst pa_nil))
      (pss_cons (ps_set (i := 3) sc__law_draws.nd rfl (Or.inl rfl) (pe_callB call_abs (by rfl) T.b_abs (by decide +kernel) (pa_cons (pe_callTy call_int1 (by rfl) T.b_int (by decide +kernel) (pa_cons (pv 0) pa_nil)) pa_nil)))
      (pss_cons (ps_set (i := 4) sc__law_draws.nd rfl (Or.inl rfl) (pe_op op_mod (pe_callTy call_int1 (by rfl) T.b_int (by decide +kernel) (pa_cons (pv 3) pa_nil)) pe_int))
      (pss_cons (ps_set (i := 5) sc__law_draws.nd rfl (Or.inl rfl) (pe_or (pe_cmp (pc_lt (pv 0) pe_int)) (pe_one (pe_cmp (pc_ge (pv 0) (pe_op op_pow pe_int pe_int))))))
      (pss_cons (ps_for (passes_of rfl) rfl (pi_listK (K := K) (pv 1)) (pg_name (i := 6) sc__law_draws.nd rfl (Or.inl rfl)) (pss_one (ps_if (PW.pt (pw_and (pt_val (pv 5)) (pw_and1 (pt_cmp (pc_gt (pv 3) pe_int))))) (pss_cons (ps_expr (pe_bm PySem.F.plainAttrs_list PySem.F.slot_list_append PySem.F.type_list_append mt_append (pv 2) (pa_cons (pe_op op_mod (pe_callTy call_int1 (by rfl) T.b_int (by decide +kernel) (pa_cons (pv 3) pa_nil)) (pv 6)) pa_nil)))
      (pss_one (ps_set (i := 3) sc__law_draws.nd rfl (Or.inl rfl) (pe_op op_fdivW (pv 3) (pv 6))))) (pss_cons (ps_set (i := 4) sc__law_draws.nd rfl (Or.inl rfl) (pe_op op_mod (pe_callTy call_int1 (by rfl) T.b_int (by decide +kernel) (pa_cons (pe_op op_add (pe_op op_mul (pv 4) pe_int) pe_int) pa_nil)) pe_int))
      (pss_cons (ps_set (i := 4) sc__law_draws.nd rfl (Or.inl rfl) (pe_op op_mod (pe_callTy call_int1 (by rfl) T.b_int (by decide +kernel) (pa_cons (pe_op op_add (pe_op op_mul (pv 4) pe_int) pe_int) pa_nil)) pe_int))
      (pss_one (ps_expr (pe_bm PySem.F.plainAttrs_list PySem.F.slot_list_append PySem.F.type_list_append mt_append (pv 2) (pa_cons (pe_op op_mod (pe_callTy call_int1 (by rfl) T.b_int (by decide +kernel) (pa_cons (pe_op op_fdivW (pv 4) pe_int) pa_nil)) (pv 6)) pa_nil)))))))))
      (pss_one (ps_ret (pv 2)))))))), ?_⟩
    obtain ⟨KK, EE, hK0, hE, hw⟩ := cW_gen hw
    have S0 := Sep.startG sG
    unfold F__law_draws at hw
    refine ⟨(by show 0 ≤ sizeLine; decide), fun p1 n2 => ?_⟩
    generalize g3 : upd H p1 _ = H4
    obtain ⟨e5, h6⟩ := gen_new n2 g3
    have h7 : H4 p1 = some (.lst ((([] : (List Int)) : (List Int)).map V.int)) := h6
    have fr8 := S0.free n2
    have S9 := S0.new n2 e5 h7 fr8
    refine ⟨_, rfl, .inl ⟨_, rfl, ?_⟩⟩
    refine ⟨_, rfl, ?_⟩
    have hw := cW_bnd hw
    refine ⟨_, rfl, .inl ⟨_, rfl, ?_⟩⟩
    refine ⟨_, _, rfl, rfl, (show (0 : Int) < 2147483647 by decide), ?_⟩
    have hw := cW_bnd hw
    refine vv_or (ta := (tLt (tVar 0) (tC (V.int 0)))) (tb := (tGe (tVar 0) (tOp (rI CPow fun i j => V.int (i ^ j.toNat)) (tC (V.int 10)) (tC (V.int 18))))) (a := decide (cell' < 0)) (b := decide (((10 : Int) ^ Int.toNat 18) ≤ cell')) ?ha12 ?hb13 _ ?_
    case ha12 => exact (vv_cmp (val_var rfl) val_c (fun Q q => ⟨_, _, rfl, rfl, q⟩))
    case hb13 => exact (vv_cmp (val_var rfl) (val_op val_c val_c (fun Q q => ⟨_, _, rfl, rfl, ⟨by decide, by decide, by decide⟩, q⟩)) (fun Q q => ⟨_, _, rfl, rfl, q⟩))
    have hw := cW_bnd hw
    obtain ⟨K16, hK17, hw⟩ := cW_push hw
    refine ⟨_, rfl, _, rfl, ⟨_, (SqL.of (S9.bM _ _ q_limits))⟩, for_list (K := K) (a := a_limits) (xs := (limits' : List Int).map V.int) (fun i σ H' => ∃ (found_18 : (List Int)) (rest_19 : Int) (state_20 : Int) (u21 : Option V) (G' : Hp), σ = [some (V.int (cell')), some (V.ref a_limits), some (V.ref p1), some (V.int rest_19), some (V.int state_20), some (V.bl ((decide (cell' < 0) || decide (((10 : Int) ^ Int.toNat 18) ≤ cell')))), u21] ∧ Same G G' ∧ Sep [] H G G' H' [p1] ∧ H' p1 = some (.lst ((found_18 : (List Int)).map V.int)) ∧ cW (forS (List.drop i (limits')) (found_18, rest_19, state_20) (fun s x => F__law_draws_b1 ((decide (cell' < 0) || decide (((10 : Int) ^ Int.toNat 18) ≤ cell'))) (s.1) (s.2.1) (s.2.2) x)) K16 EE) ?_ ?_ ?_ ?_⟩
    · exact ⟨(([] : (List Int))), ((if cell' < 0 then -cell' else cell')), (((if cell' < 0 then -cell' else cell') % 2147483647)), _, _, rfl, (Same.refl _), S9, h7, hw⟩
    · intro i σ H22 _ hw
      obtain ⟨found_18, rest_19, state_20, u21, G25, rfl, eG26, S23, h24, hw⟩ := hw
      exact (SqL.of (S23.bM _ _ q_limits))
    · intro i x σ H27 hj hw
      obtain ⟨found_18, rest_19, state_20, u21, G30, rfl, eG31, S28, h29, hw⟩ := hw
      obtain ⟨x32, hx, rfl⟩ := map_get hj
      have hw := cW_forS hx hw
      have hw : cW (F__law_draws_b1 ((decide (cell' < 0) || decide (((10 : Int) ^ Int.toNat 18) ≤ cell'))) (found_18) (rest_19) (state_20) (x32)) _ EE := hw
      unfold F__law_draws_b1 at hw
      obtain ⟨K36, hK37, hw⟩ := cW_name hw
      refine ⟨_, rfl, _, rfl, ?_⟩
      refine iteB (fun c39 => ?_) (fun c39 => ?_)
      · have hw := cW_pos c39 hw
        refine ⟨_, rfl, _, _, rfl, rfl, _, rfl, ?_⟩
        refine iteD (fun c40 => ?_) (fun c40 => ?_)
        · have hw := cW_pos c40 hw
          refine ⟨_, rfl, (.inl ⟨rfl, _, SqL.of h29⟩), _, rfl, .inl ⟨_, rfl, ?_⟩⟩
          obtain ⟨g41, hw⟩ := cW_grd hw
          obtain ⟨g42, hw⟩ := cW_grd hw
          refine ⟨_, rfl, _, _, rfl, rfl, g41, _, _, _, rfl, rfl, h29, (app_lenM g42), ?_⟩
          generalize g43 : upd H27 p1 _ = H44
          obtain ⟨x45, h46⟩ := gen_mut g43
          have h47 : H44 p1 = some (.lst (((found_18) ++ [(rest_19 % x32)] : (List Int)).map V.int)) := snoc_map h46
          have S48 := S28.mut1 x45 (.head _) h47
          have hw := cW_bnd hw
          obtain ⟨g50, hw⟩ := cW_grd hw
          refine ⟨_, rfl, _, rfl, _, _, rfl, rfl, (divW_small g50.1 g50.2), ?_⟩
          have hw := cW_bnd hw
          have hw := cW_ok hw
          have hw := hK37 _ hw
          exact ⟨((found_18) ++ [(rest_19 % x32)]), ((rest_19 / x32)), (state_20), _, _, rfl, eG31, S48, h47, hw⟩
        · have hw := cW_neg c40 hw
          refine ⟨_, rfl, _, _, rfl, rfl, (.inr ⟨by decide, by decide⟩), _, _, rfl, rfl, .inl ⟨_, rfl, ?_⟩⟩
          refine ⟨_, _, rfl, rfl, (show (0 : Int) < 2147483647 by decide), ?_⟩
          have hw := cW_bnd hw
          refine ⟨_, rfl, _, _, rfl, rfl, (.inr ⟨by decide, by decide⟩), _, _, rfl, rfl, .inl ⟨_, rfl, ?_⟩⟩
          refine ⟨_, _, rfl, rfl, (show (0 : Int) < 2147483647 by decide), ?_⟩
          have hw := cW_bnd hw
          refine ⟨_, rfl, (.inl ⟨rfl, _, SqL.of h29⟩), _, rfl, _, _, rfl, rfl, (divW_lit (by decide) (by decide)), .inl ⟨_, rfl, ?_⟩⟩
          obtain ⟨g54, hw⟩ := cW_grd hw
          obtain ⟨g55, hw⟩ := cW_grd hw
          refine ⟨_, rfl, _, _, rfl, rfl, g54, _, _, _, rfl, rfl, h29, (app_lenM g55), ?_⟩
          generalize g56 : upd H27 p1 _ = H57
          obtain ⟨x58, h59⟩ := gen_mut g56
          have h60 : H57 p1 = some (.lst (((found_18) ++ [((((((((state_20 * 48271) + 11) % 2147483647) * 69621) + 7) % 2147483647) / 13) % x32)] : (List Int)).map V.int)) := snoc_map h59
          have S61 := S28.mut1 x58 (.head _) h60
          have hw := cW_bnd hw
          have hw := cW_ok hw
          have hw := hK37 _ hw
          exact ⟨((found_18) ++ [((((((((state_20 * 48271) + 11) % 2147483647) * 69621) + 7) % 2147483647) / 13) % x32)]), (rest_19), (((((((state_20 * 48271) + 11) % 2147483647) * 69621) + 7) % 2147483647)), _, _, rfl, eG31, S61, h60, hw⟩
      · have hw := cW_negB c39 hw
        refine iteF ?_
        refine ⟨_, rfl, _, _, rfl, rfl, (.inr ⟨by decide, by decide⟩), _, _, rfl, rfl, .inl ⟨_, rfl, ?_⟩⟩
        refine ⟨_, _, rfl, rfl, (show (0 : Int) < 2147483647 by decide), ?_⟩
        have hw := cW_bnd hw
        refine ⟨_, rfl, _, _, rfl, rfl, (.inr ⟨by decide, by decide⟩), _, _, rfl, rfl, .inl ⟨_, rfl, ?_⟩⟩
        refine ⟨_, _, rfl, rfl, (show (0 : Int) < 2147483647 by decide), ?_⟩
        have hw := cW_bnd hw
        refine ⟨_, rfl, (.inl ⟨rfl, _, SqL.of h29⟩), _, rfl, _, _, rfl, rfl, (divW_lit (by decide) (by decide)), .inl ⟨_, rfl, ?_⟩⟩
        obtain ⟨g65, hw⟩ := cW_grd hw
        obtain ⟨g66, hw⟩ := cW_grd hw
        refine ⟨_, rfl, _, _, rfl, rfl, g65, _, _, _, rfl, rfl, h29, (app_lenM g66), ?_⟩
        generalize g67 : upd H27 p1 _ = H68
        obtain ⟨x69, h70⟩ := gen_mut g67
        have h71 : H68 p1 = some (.lst (((found_18) ++ [((((((((state_20 * 48271) + 11) % 2147483647) * 69621) + 7) % 2147483647) / 13) % x32)] : (List Int)).map V.int)) := snoc_map h70
        have S72 := S28.mut1 x69 (.head _) h71
        have hw := cW_bnd hw
        have hw := cW_ok hw
        have hw := hK37 _ hw
        exact ⟨((found_18) ++ [((((((((state_20 * 48271) + 11) % 2147483647) * 69621) + 7) % 2147483647) / 13) % x32)]), (rest_19), (((((((state_20 * 48271) + 11) % 2147483647) * 69621) + 7) % 2147483647)), _, _, rfl, eG31, S72, h71, hw⟩
    · intro σ H74 hw
      obtain ⟨found_18, rest_19, state_20, u21, G77, rfl, eG78, S75, h76, hw⟩ := hw
      have hw := hK17 _ (cW_forS0 (by rw [List.length_map]) hw)
      have hw : cW (F__law_draws_r1  (found_18) (rest_19) (state_20)) _ EE := hw
      unfold F__law_draws_r1 at hw
      refine ⟨_, rfl, ?_⟩
      have hw := cW_ok hw
      exact hK0 _ hw _ _ fr8 S75.b0 h76

abbrev N__law_plane : List Str := ["cell", "width", "height", "top", "kind", "values", "k", "value", "y"]
theorem sc__law_plane : FnScope N__law_plane ["cell", "width", "height", "top"] (defScope s__law_plane) := ⟨rfl, rfl, rfl, by decide +kernel, rfl, by decide +kernel, by decide +kernel⟩
theorem ok__law_plane (D : DefX K mg "_law_plane" s__law_plane ["cell", "width", "height", "top"] pats__law_plane) (T : Txt K mg AD) (c__law_draws : CalX P w K mg base 1 "_law_draws" (sp__law_draws K AD) pats__law_draws) : CalX P w K mg base 2 "_law_plane" (sp__law_plane K AD) pats__law_plane := by
  refine D.ok sc__law_plane (fun vs H Q E h => ?_) (fun f cdv A_ outer s H vs Q E hr h => ?_)
  · obtain ⟨G, cell', width', height', top', rfl, _⟩ := h
    rfl
  · obtain ⟨G, cell', width', height', top', rfl, sG, hw⟩ := h
    refine ⟨_, (pss_cons (ps_set (i := 4) sc__law_plane.nd rfl (Or.inl rfl) (pe_op op_mod (pe_callTy call_int1 (by rfl) T.b_int (by decide +kernel) (pa_cons (pv 0) pa_nil)) pe_int))
      (pss_cons (ps_set (i := 5) sc__law_plane.nd rfl (Or.inr rfl) (vx_callX c__law_draws pat__law_draws_0 (.head _) hr (by decide) (takes_of rfl rfl rfl rfl) rfl (pa_cons (pe_op op_fdivW (pe_callTy call_int1 (by rfl) T.b_int (by decide +kernel) (pa_cons (pv 0) pa_nil)) pe_int) (pa_cons (pe_op op_rep (pe_lst (pa_cons (pe_op op_add (pv 3) pe_int) pa_nil)) (pe_op op_mul (pv 1) (pv 2))) pa_nil)) pk_nil))
      (C8.pss_cut (ps_if (pt_cmp (pc_eqI (pv 4) pe_int)) (pss_one (ps_set (i := 5) sc__law_plane.nd rfl (Or.inr rfl) (pe_op op_rep (pe_lst (pa_cons (pe_ix (ix_listK (K := K)) (pv 5) pe_int (fun _ _ => rfl)) pa_nil)) (pe_op op_mul (pv 1) (pv 2))))) pss_nil)
      (C8.pss_cut (ps_if (pt_cmp (pc_eqI (pv 4) pe_int)) (pss_one (ps_set (i := 5) sc__law_plane.nd rfl (Or.inr rfl) (pe_lc (own := [("k", 6)]) (g := gName 6) (by rfl) sc__law_plane.nd (pi_range1 rfl T.b_range (pa_cons (pe_op op_mul (pv 1) (pv 2)) pa_nil)) (blkOk_by (own := [("k", 6)]) (N := N__law_plane) (sc := defScope s__law_plane) (by decide +kernel)) (fun _ _ _ _ _ => (pg_name (i := 6) sc__law_plane.nd rfl (Or.inl rfl))) (fun _ _ _ _ _ => pts_nil) (fun _ _ _ _ _ => (pe_op op_mod (pe_callTy call_int1 (by rfl) T.b_int (by decide +kernel) (pa_cons (pe_op op_add (pe_ix (ix_listK (K := K)) (pv 5) pe_int (fun _ _ => rfl)) (pe_op op_mul pe_int (pv 6))) pa_nil)) (pe_op op_add (pv 3) pe_int)))))) pss_nil)
      (C8.pss_cut (ps_if (pt_cmp (pc_eqI (pv 4) pe_int)) (pss_one (ps_set (i := 5) sc__law_plane.nd rfl (Or.inr rfl) (pe_lc (own := [("value", 7)]) (g := gName 7) (by rfl) sc__law_plane.nd (pi_listK (K := K) (pv 5)) (blkOk_by (own := [("value", 7)]) (N := N__law_plane) (sc := defScope s__law_plane) (by decide +kernel)) (fun _ _ _ _ _ => (pg_name (i := 7) sc__law_plane.nd rfl (Or.inl rfl))) (fun _ _ _ _ _ => pts_nil) (fun _ _ _ _ _ => (pe_op op_mul (pv 3) (pe_callTy call_int1 (by rfl) T.b_int (by decide +kernel) (pa_cons (pe_op op_mod (pe_callTy call_int1 (by rfl) T.b_int (by decide +kernel) (pa_cons (pv 7) pa_nil)) pe_int) pa_nil))))))) pss_nil)
      (pss_one (ps_ret (pe_lc (own := [("y", 8)]) (g := gName 8) (by rfl) sc__law_plane.nd (pi_range1 rfl T.b_range (pa_cons (pv 2) pa_nil)) (blkOk_by (own := [("y", 8)]) (N := N__law_plane) (sc := defScope s__law_plane) (by decide +kernel)) (fun _ _ _ _ _ => (pg_name (i := 8) sc__law_plane.nd rfl (Or.inl rfl))) (fun _ _ _ _ _ => pts_nil) (fun _ _ _ _ _ => (pe_slice (sl_listK (K := K)) (pv 5) (po_some (pe_op op_mul (pv 8) (pv 1))) (po_some (pe_op op_mul (pe_op op_add (pv 8) pe_int) (pv 1))))))))))))), ?_⟩
    obtain ⟨KK, EE, hK0, hE, hw⟩ := cW_gen hw
    have S0 := Sep.startG sG
    unfold F__law_plane at hw
    refine ⟨_, rfl, .inl ⟨_, rfl, ?_⟩⟩
    refine ⟨_, _, rfl, rfl, (show (0 : Int) < 4 by decide), ?_⟩
    have hw := cW_bnd hw
    refine ⟨_, rfl, .inl ⟨_, rfl, ?_⟩⟩
    refine ⟨_, _, rfl, rfl, (divW_lit (by decide) (by decide)), _, rfl, _, _, rfl, rfl, (by show 1 ≤ sizeLine; decide), fun p83 n84 => ?_⟩
    generalize g85 : upd H p83 _ = H86
    obtain ⟨e87, h88⟩ := gen_new n84 g85
    have h89 : H86 p83 = some (.lst (([(top' + 1)] : (List Int)).map V.int)) := h88
    have fr90 := S0.free n84
    have S91 := S0.new n84 e87 h89 fr90
    obtain ⟨g92, hw⟩ := cW_grd hw
    obtain ⟨g93, hw⟩ := cW_grd hw
    refine ⟨_, rfl, _, rfl, _, _, rfl, rfl, g92, _, _, _, rfl, rfl, h89, g93.1, g93.2.1, (rep_lenM g93.2.2), fun p94 n95 => ?_⟩
    generalize g96 : upd H86 p94 _ = H97
    obtain ⟨e98, h99⟩ := gen_new n95 g96
    have h100 : H97 p94 = some (.lst ((repL ([(top' + 1)]) ((width' * height')) : (List Int)).map V.int)) := rep_map h99
    have fr101 := S91.free n95
    have S102 := S91.new n95 e98 h100 fr101
    refine ⟨rfl, rfl, G, _, _, _, rfl, S102.sG, (hide_nil h100), cW_call hw (fun v103 hw p106 H104 n107 e105 h108 => ?_) (fun e he H2 e2 => hE e he H2 (Same.trans S102.b0 e2))⟩
    have h109 : H104 p106 = some (.lst ((v103 : (List Int)).map V.int)) := h108
    have fr110 := S102.free n107
    have S111 := S102.new n107 e105 h109 fr110
    refine ⟨fun σ H' => ∃ (p118 : Addr) (values_117 : (List Int)) (G' : Hp), σ = [some (V.int (cell')), some (V.int (width')), some (V.int (height')), some (V.int (top')), some (V.int ((cell' % 4))), some (V.ref p118), none, none, none] ∧ Same G G' ∧ Sep [] H G G' H' [p118] ∧ H' p118 = some (.lst ((values_117 : (List Int)).map V.int)) ∧ H p118 = none ∧ cW (F__law_plane_k1 (width') (height') (top') ((cell' % 4)) values_117) KK EE, ?_, ?_⟩
    · obtain ⟨K119, hK120, hw⟩ := cW_push hw
      refine ⟨_, rfl, _, _, rfl, rfl, _, rfl, ?_⟩
      refine iteD (fun c121 => ?_) (fun c121 => ?_)
      · have hw := cW_pos c121 hw
        obtain ⟨g122, hw⟩ := cW_grd hw
        refine ⟨_, rfl, _, _, _, _, rfl, rfl, (SqL.of h109), (atI_map g122), (by show 1 ≤ sizeLine; decide), fun p123 n124 => ?_⟩
        generalize g125 : upd H104 p123 _ = H126
        obtain ⟨e127, h128⟩ := gen_new n124 g125
        have h129 : H126 p123 = some (.lst (([(itD (v103) (0))] : (List Int)).map V.int)) := h128
        have fr130 := S111.free n124
        have S131 := S111.new n124 e127 h129 fr130
        obtain ⟨g132, hw⟩ := cW_grd hw
        obtain ⟨g133, hw⟩ := cW_grd hw
        refine ⟨_, rfl, _, rfl, _, _, rfl, rfl, g132, _, _, _, rfl, rfl, h129, g133.1, g133.2.1, (rep_lenM g133.2.2), fun p134 n135 => ?_⟩
        generalize g136 : upd H126 p134 _ = H137
        obtain ⟨e138, h139⟩ := gen_new n135 g136
        have h140 : H137 p134 = some (.lst ((repL ([(itD (v103) (0))]) ((width' * height')) : (List Int)).map V.int)) := rep_map h139
        have fr141 := S131.free n135
        have S142 := S131.new n135 e138 h140 fr141
        have hw := cW_ok hw
        have hw := hK120 _ hw
        exact ⟨_, (repL ([(itD (v103) (0))]) ((width' * height'))), _, rfl, (Same.refl _), (S142.sub (all_cons (.head _) all_nil)), h140, fr141, hw⟩
      · have hw := cW_neg c121 hw
        have hw := cW_ok hw
        have hw := hK120 _ hw
        exact ⟨_, (v103), _, rfl, (Same.refl _), (S111.sub (all_cons (.head _) all_nil)), h109, fr110, hw⟩
    · intro σ H143 hw
      obtain ⟨p118, values_117, G147, rfl, eG148, S144, h145, fr146, hw⟩ := hw
      unfold F__law_plane_k1 at hw
      refine ⟨fun σ H' => ∃ (p155 : Addr) (values_154 : (List Int)) (G' : Hp), σ = [some (V.int (cell')), some (V.int (width')), some (V.int (height')), some (V.int (top')), some (V.int ((cell' % 4))), some (V.ref p155), none, none, none] ∧ Same G147 G' ∧ Sep [] H G G' H' [p155] ∧ H' p155 = some (.lst ((values_154 : (List Int)).map V.int)) ∧ H p155 = none ∧ cW (F__law_plane_k2 (width') (height') (top') ((cell' % 4)) values_154) KK EE, ?_, ?_⟩
      · obtain ⟨K156, hK157, hw⟩ := cW_push hw
        refine ⟨_, rfl, _, _, rfl, rfl, _, rfl, ?_⟩
        refine iteD (fun c158 => ?_) (fun c158 => ?_)
        · have hw := cW_pos c158 hw
          obtain ⟨g159, hw⟩ := cW_grd hw
          obtain ⟨g160, hw⟩ := cW_grd hw
          obtain ⟨K164, hK165, hw⟩ := cW_push hw
          refine ⟨_, rfl, _, rfl, _, _, rfl, rfl, g159, _, rfl, g160.1, g160.2, fun D166 n167 => lc_range (lo := 0) (n := Int.toNat ((width' * height'))) (fun i H' => ∃ (G' : Hp) (acc169 : (List Int)), Same G147 G' ∧ Sep [] H G G' H' [D166, p118] ∧ H' p118 = some (.lst ((values_117 : (List Int)).map V.int)) ∧ H' D166 = some (.lst ((acc169 : (List Int)).map V.int)) ∧ Same H143 H' ∧ cW (mapA (List.drop i (rng (0) (Int.toNat ((width' * height'))))) acc169 (fun x => noEr (F__law_plane_c3 (top') (values_117) x))) K164 EE) ?_ ?_ ?_⟩
          · generalize g171 : upd H143 D166 _ = H172
            obtain ⟨e173, h174⟩ := gen_new n167 g171
            have fr175 := S144.free n167
            have S176 := S144.new n167 e173 h174 fr175
            have h177 := (e173 _ _ h145)
            exact ⟨_, [], Same.refl _, S176, h177, h174, e173, hw⟩
          · intro i H178 hi hw
            obtain ⟨G181, acc183, eG182, S179, h190, h180, eo189, hw⟩ := hw
            obtain ⟨z191, hw⟩ := cW_mapA (rng_get hi) hw
            generalize (0 + (i : Int)) = x192 at hw ⊢
            have hw := cW_noEr hw
            have hw : cW (F__law_plane_c3 (top') (values_117) (x192)) _ (fun _ => False) := hw
            unfold F__law_plane_c3 at hw
            refine ⟨rfl, ?_⟩
            refine tyes_go ?_
            obtain ⟨g194, hw⟩ := cW_grd hw
            refine ⟨_, rfl, _, _, _, _, rfl, rfl, (SqL.of h190), (atI_map g194), _, rfl, _, _, rfl, rfl, (.inl ⟨by decide, by decide⟩), _, _, rfl, rfl, .inl ⟨_, rfl, ?_⟩⟩
            obtain ⟨g195, hw⟩ := cW_grd hw
            refine ⟨_, rfl, _, _, rfl, rfl, _, _, rfl, rfl, g195, _, h180, (app_lenM z191), ?_⟩
            generalize g196 : upd H178 D166 _ = H197
            obtain ⟨x198, h199⟩ := gen_mut g196
            have S200 := S179.mut1 x198 (.head _) h199
            have hw := cW_ok hw
            have h201 := (x198 _ _ h190 (ne_of_none h145 n167))
            exact ⟨_, (acc183 ++ [(((itD (values_117) (0)) + (7 * x192)) % (top' + 1))]), eG182, S200, h201, (snoc_map h199), (same_mut eo189 x198 n167), hw⟩
          intro H202 hw
          obtain ⟨G205, acc207, eG206, S203, h214, h204, eo213, hw⟩ := hw
          have hw := hK165 _ (cW_mapA0 (rng_len _ _).symm hw)
          have fr215 := S144.free n167
          have hw := cW_ok hw
          have hw := hK157 _ hw
          exact ⟨_, (acc207), _, rfl, eG206, (S203.sub (all_cons (.head _) all_nil)), h204, fr215, hw⟩
        · have hw := cW_neg c158 hw
          have hw := cW_ok hw
          have hw := hK157 _ hw
          exact ⟨_, (values_117), _, rfl, (Same.refl _), S144, h145, fr146, hw⟩
      · intro σ H216 hw
        obtain ⟨p155, values_154, G220, rfl, eG221, S217, h218, fr219, hw⟩ := hw
        unfold F__law_plane_k2 at hw
        refine ⟨fun σ H' => ∃ (p226 : Addr) (values_225 : (List Int)) (G' : Hp), σ = [some (V.int (cell')), some (V.int (width')), some (V.int (height')), some (V.int (top')), some (V.int ((cell' % 4))), some (V.ref p226), none, none, none] ∧ Same G220 G' ∧ Sep [] H G G' H' [p226] ∧ H' p226 = some (.lst ((values_225 : (List Int)).map V.int)) ∧ H p226 = none ∧ cW (F__law_plane_k4 (width') (height') values_225) KK EE, ?_, ?_⟩
        · obtain ⟨K227, hK228, hw⟩ := cW_push hw
          refine ⟨_, rfl, _, _, rfl, rfl, _, rfl, ?_⟩
          refine iteD (fun c229 => ?_) (fun c229 => ?_)
          · have hw := cW_pos c229 hw
            obtain ⟨K232, hK233, hw⟩ := cW_push hw
            refine ⟨_, rfl, _, rfl, ⟨_, (SqL.of h218)⟩, fun D234 n235 => lc_list (K := K) (a := p155) (xs := (values_154 : (List Int)).map V.int) (fun i H' => ∃ (G' : Hp) (acc237 : (List Int)), Same G220 G' ∧ Sep [] H G G' H' [D234, p155] ∧ H' p155 = some (.lst ((values_154 : (List Int)).map V.int)) ∧ H' D234 = some (.lst ((acc237 : (List Int)).map V.int)) ∧ Same H216 H' ∧ cW (mapA (List.drop i (values_154)) acc237 (fun x => noEr (F__law_plane_c5 (top') x))) K232 EE) ?_ ?_ ?_ ?_⟩
            · generalize g239 : upd H216 D234 _ = H240
              obtain ⟨e241, h242⟩ := gen_new n235 g239
              have fr243 := S217.free n235
              have S244 := S217.new n235 e241 h242 fr243
              have h245 := (e241 _ _ h218)
              exact ⟨_, [], Same.refl _, S244, h245, h242, e241, hw⟩
            · intro i H246 _ hw
              obtain ⟨G249, acc251, eG250, S247, h258, h248, eo257, hw⟩ := hw
              exact (SqL.of h258)
            · intro i x H259 hj hw
              obtain ⟨G262, acc264, eG263, S260, h271, h261, eo270, hw⟩ := hw
              obtain ⟨x272, hx, rfl⟩ := map_get hj
              obtain ⟨z273, hw⟩ := cW_mapA hx hw
              have hw := cW_noEr hw
              have hw : cW (F__law_plane_c5 (top') (x272)) _ (fun _ => False) := hw
              unfold F__law_plane_c5 at hw
              refine ⟨rfl, ?_⟩
              refine tyes_go ?_
              refine ⟨_, rfl, _, rfl, .inl ⟨_, rfl, ?_⟩⟩
              refine ⟨_, _, rfl, rfl, (show (0 : Int) < 2 by decide), .inl ⟨_, rfl, ?_⟩⟩
              obtain ⟨g275, hw⟩ := cW_grd hw
              refine ⟨_, _, rfl, rfl, g275, _, h261, (app_lenM z273), ?_⟩
              generalize g276 : upd H259 D234 _ = H277
              obtain ⟨x278, h279⟩ := gen_mut g276
              have S280 := S260.mut1 x278 (.head _) h279
              have hw := cW_ok hw
              have h281 := (x278 _ _ h271 (ne_of_none h218 n235))
              exact ⟨_, (acc264 ++ [(top' * (x272 % 2))]), eG263, S280, h281, (snoc_map h279), (same_mut eo270 x278 n235), hw⟩
            intro H282 hw
            obtain ⟨G285, acc287, eG286, S283, h294, h284, eo293, hw⟩ := hw
            have hw := hK233 _ (cW_mapA0 (by rw [List.length_map]) hw)
            have fr295 := S217.free n235
            have hw := cW_ok hw
            have hw := hK228 _ hw
            exact ⟨_, (acc287), _, rfl, eG286, (S283.sub (all_cons (.head _) all_nil)), h284, fr295, hw⟩
          · have hw := cW_neg c229 hw
            have hw := cW_ok hw
            have hw := hK228 _ hw
            exact ⟨_, (values_154), _, rfl, (Same.refl _), S217, h218, fr219, hw⟩
        · intro σ H296 hw
          obtain ⟨p226, values_225, G300, rfl, eG301, S297, h298, fr299, hw⟩ := hw
          unfold F__law_plane_k4 at hw
          obtain ⟨g302, hw⟩ := cW_grd hw
          obtain ⟨K306, hK307, hw⟩ := cW_push hw
          refine ⟨_, rfl, _, rfl, g302.1, g302.2, fun D308 n309 => lc_range (lo := 0) (n := Int.toNat (height')) (fun i H' => ∃ (G' : Hp) (acc311 : (List (List Int))) (vs312 : List V) (L310 : List Addr), Same G300 G' ∧ Sep [] H G G' H' (D308 :: (L310 ++ (p226 :: []))) ∧ H' p226 = some (.lst ((values_225 : (List Int)).map V.int)) ∧ H' D308 = some (.lst vs312) ∧ OwAll G' H' L310 vs312 ((acc311 : (List (List Int))).map (oL oI)) ∧ (∀ b ∈ L310, H296 b = none) ∧ (∀ b ∈ L310, b ≠ D308) ∧ Same H296 H' ∧ cW (mapA (List.drop i (rng (0) (Int.toNat (height')))) acc311 (fun x => noEr (F__law_plane_c6 (width') (values_225) x))) K306 EE) ?_ ?_ ?_⟩
          · generalize g313 : upd H296 D308 _ = H314
            obtain ⟨e315, h316⟩ := gen_new n309 g313
            have fr317 := S297.free n309
            have S318 := S297.new n309 e315 h316 fr317
            have h319 := (e315 _ _ h298)
            exact ⟨_, [], [], [], Same.refl _, (S318.sub (all_cons (.head _) (all_app (L := []) all_nil (all_cons (.tail _ (.head _)) all_nil)))), h319, h316, OwAll.nil, all_nil, all_nil, e315, hw⟩
          · intro i H320 hi hw
            obtain ⟨G323, acc325, vs326, L328, eG324, S321, h332, h322, d327, nb329, nd330, eo331, hw⟩ := hw
            obtain ⟨z333, hw⟩ := cW_mapA (rng_get hi) hw
            generalize (0 + (i : Int)) = x334 at hw ⊢
            have hw := cW_noEr hw
            have hw : cW (F__law_plane_c6 (width') (values_225) (x334)) _ (fun _ => False) := hw
            unfold F__law_plane_c6 at hw
            refine ⟨rfl, ?_⟩
            refine tyes_go ?_
            obtain ⟨g336, hw⟩ := cW_grd hw
            obtain ⟨g337, hw⟩ := cW_grd hw
            refine ⟨_, rfl, _, rfl, _, rfl, _, _, rfl, rfl, g336, _, rfl, _, rfl, _, _, rfl, rfl, _, rfl, _, _, rfl, rfl, g337, _, rfl, _, _, rfl, (SqL.of h332), fun p338 n339 => ?_⟩
            generalize g340 : upd H320 p338 _ = H341
            obtain ⟨e342, h343⟩ := gen_new n339 g340
            have h344 : H341 p338 = some (.lst ((cutL (values_225) (some ((x334 * width'))) (some (((x334 + 1) * width'))) : (List Int)).map V.int)) := cut_map h343
            have fr345 := S321.free n339
            have S346 := S321.new n339 e342 h344 fr345
            have w347 : OwAll G323 H341 L328 (vs326) ((acc325 : (List (List Int))).map (oL oI)) := (OwAll.mono (Same.refl _) (keeps_same e342) d327)
            have h348 := (e342 _ _ h322)
            refine ⟨_, h348, (app_len (OwAll.rpA w347 (encO_L encO_I) S346.sG) z333), ?_⟩
            generalize g349 : upd H341 D308 _ = H350
            obtain ⟨x351, h352⟩ := gen_mut g349
            have S353 := S346.mut1 x351 (.tail _ (.head _)) h352
            have hw := cW_ok hw
            have h354 := (x351 _ _ (e342 _ _ h332) (ne_of_none h298 n309))
            exact ⟨_, (acc325 ++ [cutL (values_225) (some ((x334 * width'))) (some (((x334 + 1) * width')))]), _, (L328 ++ (p338 :: ([] : List Addr))), eG324, (S353.sub (all_cons (.tail _ (.head _)) (all_app (all_app ((fun b hb => (.tail _ (.tail _ (List.mem_append_left _ hb)))) : ∀ b ∈ L328, b ∈ (p338 :: (D308 :: (L328 ++ (p226 :: []))))) (all_cons (.head _) all_nil)) (all_cons (.tail _ (.tail _ (List.mem_append_right _ (.head _)))) all_nil)))), h354, h352, (OwAll.mono (Same.refl _) (keeps_mut x351 ((all_app nd330 (all_cons (ne_of_none h322 n339).symm all_nil)) : ∀ b ∈ (L328 ++ (p338 :: ([] : List Addr))), b ≠ D308)) (OwAll.snocM w347 (Ow.ints h344) ((fun b hb => (nm_cons ((there_ne (fun b_ hb_ => (S321.ow b_ (((fun b hb => (.tail _ (List.mem_append_left _ hb))) : ∀ b ∈ L328, b ∈ (D308 :: (L328 ++ (p226 :: [])))) b_ hb_)).2.1) n339) b hb) nm_nil)) : ∀ b ∈ L328, b ∉ (p338 :: ([] : List Addr))))), ((all_app nb329 (all_cons (none_of_same eo331 n339) all_nil)) : ∀ b ∈ (L328 ++ (p338 :: ([] : List Addr))), H296 b = none), ((all_app nd330 (all_cons (ne_of_none h322 n339).symm all_nil)) : ∀ b ∈ (L328 ++ (p338 :: ([] : List Addr))), b ≠ D308), (same_mut (Same.trans eo331 e342) x351 n309), hw⟩
          intro H355 hw
          obtain ⟨G358, acc360, vs361, L363, eG359, S356, h367, h357, d362, nb364, nd365, eo366, hw⟩ := hw
          have hw := hK307 _ (cW_mapA0 (rng_len _ _).symm hw)
          have fr368 := S297.free n309
          have hw := cW_ok hw
          exact hK0 _ hw _ _ _ _ _ fr368 ((fun b hb => Sep.h0 S356 (((fun b hb => (.tail _ (List.mem_append_left _ hb))) : ∀ b ∈ L363, b ∈ (D308 :: (L363 ++ (p226 :: [])))) b hb) nm_nil) : ∀ b ∈ L363, H b = none) (nd365 : ∀ b ∈ L363, b ≠ D308) S356.b0 S356.g0 S356.sG S356.gn (S356.ow _ (.head _)).1 ((fun b hb => (S356.ow b (((fun b hb => (.tail _ (List.mem_append_left _ hb))) : ∀ b ∈ L363, b ∈ (D308 :: (L363 ++ (p226 :: [])))) b hb)).1) : ∀ b ∈ L363, G358 b = none) h357 d362

abbrev N__law_cell : List Str := ["script", "k"]
theorem sc__law_cell : FnScope N__law_cell ["script", "k"] (defScope s__law_cell) := ⟨rfl, rfl, rfl, by decide +kernel, rfl, by decide +kernel, by decide +kernel⟩
theorem ok__law_cell (D : DefX K mg "_law_cell" s__law_cell ["script", "k"] pats__law_cell) (T : Txt K mg AD)  : CalX P w K mg base 1 "_law_cell" (sp__law_cell K AD) pats__law_cell := by
  refine D.ok sc__law_cell (fun vs H Q E h => ?_) (fun f cdv A_ outer s H vs Q E hr h => ?_)
  · obtain ⟨G, a_script, script', k', rfl, _⟩ := h
    rfl
  · obtain ⟨G, a_script, script', k', rfl, sG, q_script, hw⟩ := h
    refine ⟨_, (pss_cons (ps_if (pt_cmp (pc_lt (pv 1) (pe_callB (call_lenLiK (K := K)) (by rfl) T.b_len (by decide +kernel) (pa_cons (pv 0) pa_nil)))) (pss_one (ps_ret (pe_callTy call_int1 (by rfl) T.b_int (by decide +kernel) (pa_cons (pe_ix (ix_listK (K := K)) (pv 0) (pv 1) (fun _ _ => rfl)) pa_nil)))) pss_nil)
      (pss_one (ps_ret pe_int))), ?_⟩
    obtain ⟨KK, EE, hK0, hE, hw⟩ := cW_gen hw
    have S0 := Sep.startG sG
    unfold F__law_cell at hw
    refine ⟨_, rfl, _, rfl, _, _, rfl, (S0.b0.seq q_script), _, _, rfl, rfl, _, rfl, ?_⟩
    refine iteD (fun c369 => ?_) (fun c369 => ?_)
    · have hw := cW_pos c369 hw
      obtain ⟨g370, hw⟩ := cW_grd hw
      refine ⟨_, rfl, _, rfl, _, _, _, _, rfl, rfl, (S0.b0.seq q_script), (atI_map g370), .inl ⟨_, rfl, ?_⟩⟩
      have hw := cW_ok hw
      exact hK0 _ hw
    · have hw := cW_neg c369 hw
      have hw := cW_ok hw
      exact hK0 _ hw

abbrev N_clip : List Str := ["value", "low", "high"]
theorem sc_clip : FnScope N_clip ["value", "low", "high"] (defScope s_clip) := ⟨rfl, rfl, rfl, by decide +kernel, rfl, by decide +kernel, by decide +kernel⟩
theorem ok_clip (D : DefX K mg "clip" s_clip ["value", "low", "high"] pats_clip) (T : Txt K mg AD)  : CalX P w K mg base 1 "clip" (sp_clip K AD) pats_clip := by
  refine D.ok sc_clip (fun vs H Q E h => ?_) (fun f cdv A_ outer s H vs Q E hr h => ?_)
  · obtain ⟨G, value', low', high', rfl, _⟩ := h
    rfl
  · obtain ⟨G, value', low', high', rfl, sG, hw⟩ := h
    refine ⟨_, (pss_one (ps_ret (pe_callB (call_min2 rfl) (by rfl) T.b_min (by decide +kernel) (pa_cons (pe_callB (call_max2 rfl) (by rfl) T.b_max (by decide +kernel) (pa_cons (pv 0) (pa_cons (pv 1) pa_nil))) (pa_cons (pv 2) pa_nil))))), ?_⟩
    obtain ⟨KK, EE, hK0, hE, hw⟩ := cW_gen hw
    have S0 := Sep.startG sG
    unfold F_clip at hw
    refine ⟨_, rfl, _, rfl, _, _, rfl, _, rfl, _, _, rfl, ?_⟩
    have hw := cW_ok hw
    exact hK0 _ hw

abbrev N__samples : List Str := ["plane", "x", "y", "width", "height", "columns", "rows", "column", "row"]
theorem sc__samples : FnScope N__samples ["plane", "x", "y", "width", "height"] (defScope s__samples) := ⟨rfl, rfl, rfl, by decide +kernel, rfl, by decide +kernel, by decide +kernel⟩
theorem ok__samples (D : DefX K mg "_samples" s__samples ["plane", "x", "y", "width", "height"] pats__samples) (T : Txt K mg AD) (c_clip : CalX P w K mg base 1 "clip" (sp_clip K AD) pats_clip) : CalX P w K mg base 2 "_samples" (sp__samples K AD) pats__samples := by
  refine D.ok sc__samples (fun vs H Q E h => ?_) (fun f cdv A_ outer s H vs Q E hr h => ?_)
  · obtain ⟨G, v_plane, plane', x', y', width', height', rfl, _⟩ := h
    rfl
  · obtain ⟨G, v_plane, plane', x', y', width', height', rfl, sG, r_plane, hw⟩ := h
    refine ⟨_, (pss_cons (ps_set (i := 5) sc__samples.nd rfl (Or.inr rfl) (pe_lc (own := [("column", 7)]) (g := gName 7) (by rfl) sc__samples.nd (pi_range2 rfl T.b_range (pa_cons (pv 1) (pa_cons (pe_op op_add (pv 1) (pv 3)) pa_nil))) (blkOk_by (own := [("column", 7)]) (N := N__samples) (sc := defScope s__samples) (by decide +kernel)) (fun _ _ _ _ _ => (pg_name (i := 7) sc__samples.nd rfl (Or.inl rfl))) (fun _ _ _ _ _ => pts_nil) (fun _ _ _ _ _ => (vx_callX c_clip pat_clip_0 (.head _) hr (by decide) takes0 rfl (pa_cons (pv 7) (pa_cons pe_int (pa_cons (pe_op op_sub (pe_callB (call_lenLiK (K := K)) (by rfl) T.b_len (by decide +kernel) (pa_cons (pe_ix (ix_listK (K := K)) (pv 0) pe_int (fun _ _ => rfl)) pa_nil)) pe_int) pa_nil))) pk_nil))))
      (pss_cons (ps_setLc (i := 6) (y := "rows") rfl sc__samples.nd rfl rfl (sw_true rfl rfl rfl (by decide +kernel)) (own := [("row", 8)]) (g := gName 8) (pi_range2 rfl T.b_range (pa_cons (pv 2) (pa_cons (pe_op op_add (pv 2) (pv 4)) pa_nil))) (blkOk_by (own := [("row", 8)]) (N := N__samples) (sc := defScope s__samples) (by decide +kernel)) (fun _ _ _ _ _ => (pg_name (i := 8) sc__samples.nd rfl (Or.inl rfl))) (fun _ _ _ _ _ => pts_nil) (fun _ _ _ _ _ => (vx_callX c_clip pat_clip_0 (.head _) hr (by decide) takes0 rfl (pa_cons (pv 8) (pa_cons pe_int (pa_cons (pe_op op_sub (pe_callB (call_lenLK (K := K)) (by rfl) T.b_len (by decide +kernel) (pa_cons (pv 0) pa_nil)) pe_int) pa_nil))) pk_nil)))
      (pss_one (ps_ret (pe_lc (own := [("row", 8)]) (g := gName 8) (by rfl) sc__samples.nd (pi_listK (K := K) (pv 6)) (blkOk_by (own := [("row", 8)]) (N := N__samples) (sc := defScope s__samples) (by decide +kernel)) (fun _ _ _ _ _ => (pg_name (i := 8) sc__samples.nd rfl (Or.inr rfl))) (fun _ _ _ _ _ => pts_nil) (fun _ _ _ _ _ => (pe_lc (own := [("column", 7)]) (g := gName 7) (by rfl) sc__samples.nd (pi_listK (K := K) (pv 5)) (blk_relabel (blkOk_by (own := [("column", 7)]) (N := N__samples) (by decide +kernel))) (fun _ _ _ _ _ => (pg_name (i := 7) sc__samples.nd rfl (Or.inl rfl))) (fun _ _ _ _ _ => pts_nil) (fun _ _ _ _ _ => (pe_ix (ix_listK (K := K)) (pe_ix (ix_listK (K := K)) (pv 0) (pv 8) (fun _ _ => rfl)) (pv 7) (fun _ _ => rfl)))))))))), ?_⟩
    obtain ⟨KK, EE, hK0, hE, hw⟩ := cW_gen hw
    have S0 := Sep.startG sG
    unfold F__samples at hw
    obtain ⟨a371, vs372, rfl, h373, d374⟩ := rp_list r_plane
    obtain ⟨g375, hw⟩ := cW_grd hw
    obtain ⟨K378, hK379, hw⟩ := cW_push hw
    refine ⟨_, rfl, _, rfl, _, rfl, _, _, rfl, rfl, _, _, rfl, g375, fun D380 n381 => lc_range (lo := x') (n := Int.toNat ((x' + width') - x')) (fun i H' => ∃ (G' : Hp) (acc383 : (List Int)), Same G G' ∧ Sep [] H G G' H' [D380] ∧ H' D380 = some (.lst ((acc383 : (List Int)).map V.int)) ∧ Same H H' ∧ cW (mapA (List.drop i (rng (x') (Int.toNat ((x' + width') - x')))) acc383 (fun x => noEr (F__samples_c1 (plane') x))) K378 EE) ?_ ?_ ?_⟩
    · generalize g385 : upd H D380 _ = H386
      obtain ⟨e387, h388⟩ := gen_new n381 g385
      have fr389 := S0.free n381
      have S390 := S0.new n381 e387 h388 fr389
      exact ⟨_, [], Same.refl _, S390, h388, e387, hw⟩
    · intro i H391 hi hw
      obtain ⟨G394, acc396, eG395, S392, h393, eo402, hw⟩ := hw
      obtain ⟨z403, hw⟩ := cW_mapA (rng_get hi) hw
      generalize (x' + (i : Int)) = x404 at hw ⊢
      have hw := cW_noEr hw
      have hw : cW (F__samples_c1 (plane') (x404)) _ (fun _ => False) := hw
      unfold F__samples_c1 at hw
      refine ⟨rfl, ?_⟩
      refine tyes_go ?_
      obtain ⟨g406, hw⟩ := cW_grd hw
      obtain ⟨v407, a408, r409⟩ := RpAll.ixD (k := 0) d374 g406
      obtain ⟨a410, rfl, h411⟩ := rp_ints r409
      refine ⟨_, rfl, _, rfl, _, _, _, _, rfl, rfl, (SqL.of (S392.bM _ _ h373)), a408, _, _, rfl, (SqL.of (S392.bM _ _ h411)), _, _, rfl, rfl, rfl, rfl, G394, _, _, _, rfl, S392.sG, cW_call hw (fun v412 hw => ?_) (fun e he => he.elim)⟩
      refine ⟨_, h393, (app_lenM z403), ?_⟩
      generalize g413 : upd H391 D380 _ = H414
      obtain ⟨x415, h416⟩ := gen_mut g413
      have S417 := S392.mut1 x415 (.head _) h416
      have hw := cW_ok hw
      exact ⟨_, (acc396 ++ [v412]), eG395, S417, (snoc_map h416), (same_mut eo402 x415 n381), hw⟩
    intro H418 hw
    obtain ⟨G421, acc423, eG422, S419, h420, eo429, hw⟩ := hw
    have hw := hK379 _ (cW_mapA0 (rng_len _ _).symm hw)
    have fr430 := S0.free n381
    obtain ⟨g431, hw⟩ := cW_grd hw
    obtain ⟨K434, hK435, hw⟩ := cW_push hw
    refine ⟨_, rfl, _, rfl, _, rfl, _, _, rfl, rfl, _, _, rfl, g431, fun D436 n437 => lc_range (lo := y') (n := Int.toNat ((y' + height') - y')) (fun i H' => ∃ (G' : Hp) (acc439 : (List Int)), Same G421 G' ∧ Sep [] H G G' H' [D436, D380] ∧ H' D380 = some (.lst ((acc423 : (List Int)).map V.int)) ∧ H' D436 = some (.lst ((acc439 : (List Int)).map V.int)) ∧ Same H418 H' ∧ cW (mapA (List.drop i (rng (y') (Int.toNat ((y' + height') - y')))) acc439 (fun x => noEr (F__samples_c2 (plane') x))) K434 EE) ?_ ?_ ?_⟩
    · generalize g441 : upd H418 D436 _ = H442
      obtain ⟨e443, h444⟩ := gen_new n437 g441
      have fr445 := S419.free n437
      have S446 := S419.new n437 e443 h444 fr445
      have h447 := (e443 _ _ h420)
      exact ⟨_, [], Same.refl _, S446, h447, h444, e443, hw⟩
    · intro i H448 hi hw
      obtain ⟨G451, acc453, eG452, S449, h460, h450, eo459, hw⟩ := hw
      obtain ⟨z461, hw⟩ := cW_mapA (rng_get hi) hw
      generalize (y' + (i : Int)) = x462 at hw ⊢
      have hw := cW_noEr hw
      have hw : cW (F__samples_c2 (plane') (x462)) _ (fun _ => False) := hw
      unfold F__samples_c2 at hw
      refine ⟨rfl, ?_⟩
      refine tyes_go ?_
      refine ⟨_, rfl, _, rfl, _, _, _, rfl, (SqL.of (S449.bM _ _ h373)), (by rw [d374.len, List.length_map]), _, _, rfl, rfl, rfl, rfl, G451, _, _, _, rfl, S449.sG, cW_call hw (fun v464 hw => ?_) (fun e he => he.elim)⟩
      refine ⟨_, h450, (app_lenM z461), ?_⟩
      generalize g465 : upd H448 D436 _ = H466
      obtain ⟨x467, h468⟩ := gen_mut g465
      have S469 := S449.mut1 x467 (.head _) h468
      have hw := cW_ok hw
      have h470 := (x467 _ _ h460 (ne_of_none h420 n437))
      exact ⟨_, (acc453 ++ [v464]), eG452, S469, h470, (snoc_map h468), (same_mut eo459 x467 n437), hw⟩
    intro H471 hw
    obtain ⟨G474, acc476, eG475, S472, h483, h473, eo482, hw⟩ := hw
    have hw := hK435 _ (cW_mapA0 (rng_len _ _).symm hw)
    have fr484 := S419.free n437
    obtain ⟨K488, hK489, hw⟩ := cW_push hw
    refine ⟨_, rfl, _, rfl, ⟨_, (SqL.of h473)⟩, fun D490 n491 => lc_list (K := K) (a := D436) (xs := (acc476 : (List Int)).map V.int) (fun i H' => ∃ (G' : Hp) (acc493 : (List (List Int))) (vs494 : List V) (L492 : List Addr), Same G474 G' ∧ Sep [] H G G' H' (D490 :: (L492 ++ (D380 :: (D436 :: [])))) ∧ H' D380 = some (.lst ((acc423 : (List Int)).map V.int)) ∧ H' D436 = some (.lst ((acc476 : (List Int)).map V.int)) ∧ H' D490 = some (.lst vs494) ∧ OwAll G' H' L492 vs494 ((acc493 : (List (List Int))).map (oL oI)) ∧ (∀ b ∈ L492, H471 b = none) ∧ (∀ b ∈ L492, b ≠ D490) ∧ Same H471 H' ∧ cW (mapA (List.drop i (acc476)) acc493 (fun x => noEr (F__samples_c3 (plane') (acc423) x))) K488 EE) ?_ ?_ ?_ ?_⟩
    · generalize g495 : upd H471 D490 _ = H496
      obtain ⟨e497, h498⟩ := gen_new n491 g495
      have fr499 := S472.free n491
      have S500 := S472.new n491 e497 h498 fr499
      have h501 := (e497 _ _ h483)
      have h502 := (e497 _ _ h473)
      exact ⟨_, [], [], [], Same.refl _, (S500.sub (all_cons (.head _) (all_app (L := []) all_nil (all_cons (.tail _ (.tail _ (.head _))) (all_cons (.tail _ (.head _)) all_nil))))), h501, h502, h498, OwAll.nil, all_nil, all_nil, e497, hw⟩
    · intro i H503 _ hw
      obtain ⟨G506, acc508, vs509, L511, eG507, S504, h515, h516, h505, d510, nb512, nd513, eo514, hw⟩ := hw
      exact (SqL.of h516)
    · intro i x H517 hj hw
      obtain ⟨G520, acc522, vs523, L525, eG521, S518, h529, h530, h519, d524, nb526, nd527, eo528, hw⟩ := hw
      obtain ⟨x531, hx, rfl⟩ := map_get hj
      obtain ⟨z532, hw⟩ := cW_mapA hx hw
      have hw := cW_noEr hw
      have hw : cW (F__samples_c3 (plane') (acc423) (x531)) _ (fun _ => False) := hw
      unfold F__samples_c3 at hw
      refine ⟨rfl, ?_⟩
      refine tyes_go ?_
      obtain ⟨K537, hK538, hw⟩ := cW_push hw
      refine ⟨_, rfl, _, rfl, ⟨_, (SqL.of h529)⟩, fun D539 n540 => lc_list (K := K) (a := D380) (xs := (acc423 : (List Int)).map V.int) (fun i2 H' => ∃ (G' : Hp) (acc542 : (List Int)), Same G520 G' ∧ Sep [] H G G' H' (D539 :: (D490 :: (D380 :: (D436 :: (L525 ++ []))))) ∧ H' D490 = some (.lst (vs523)) ∧ H' D380 = some (.lst ((acc423 : (List Int)).map V.int)) ∧ H' D436 = some (.lst ((acc476 : (List Int)).map V.int)) ∧ H' D539 = some (.lst ((acc542 : (List Int)).map V.int)) ∧ OwAll G' H' L525 (vs523) ((acc522 : (List (List Int))).map (oL oI)) ∧ Same H517 H' ∧ cW (mapA (List.drop i2 (acc423)) acc542 (fun x => noEr (F__samples_c4 (plane') (x531) x))) K537 (fun _ => False)) ?_ ?_ ?_ ?_⟩
      · generalize g544 : upd H517 D539 _ = H545
        obtain ⟨e546, h547⟩ := gen_new n540 g544
        have fr548 := S518.free n540
        have S549 := S518.new n540 e546 h547 fr548
        have h550 := (e546 _ _ h519)
        have h551 := (e546 _ _ h529)
        have h552 := (e546 _ _ h530)
        have w553 : OwAll G520 H545 L525 (vs523) ((acc522 : (List (List Int))).map (oL oI)) := (OwAll.mono (Same.refl _) (keeps_same e546) d524)
        exact ⟨_, [], Same.refl _, (S549.sub (all_cons (.head _) (all_cons (.tail _ (.head _)) (all_cons (.tail _ (.tail _ (List.mem_append_right _ (.head _)))) (all_cons (.tail _ (.tail _ (List.mem_append_right _ (.tail _ (.head _))))) (all_app ((fun b hb => (.tail _ (.tail _ (List.mem_append_left _ hb)))) : ∀ b ∈ L525, b ∈ (D539 :: (D490 :: (L525 ++ (D380 :: (D436 :: [])))))) all_nil)))))), h550, h551, h552, h547, w553, e546, hw⟩
      · intro i2 H554 _ hw
        obtain ⟨G557, acc559, eG558, S555, h566, h567, h568, h556, w569, eo565, hw⟩ := hw
        exact (SqL.of h567)
      · intro i2 x H570 hj hw
        obtain ⟨G573, acc575, eG574, S571, h582, h583, h584, h572, w585, eo581, hw⟩ := hw
        obtain ⟨x586, hx, rfl⟩ := map_get hj
        obtain ⟨z587, hw⟩ := cW_mapA hx hw
        have hw := cW_noEr hw
        have hw : cW (F__samples_c4 (plane') (x531) (x586)) _ (fun _ => False) := hw
        unfold F__samples_c4 at hw
        refine ⟨rfl, ?_⟩
        refine tyes_go ?_
        obtain ⟨g589, hw⟩ := cW_grd hw
        obtain ⟨v590, a591, r592⟩ := RpAll.ixD (k := x531) d374 g589
        obtain ⟨a593, rfl, h594⟩ := rp_ints r592
        obtain ⟨g595, hw⟩ := cW_grd hw
        refine ⟨_, rfl, _, rfl, _, _, _, _, rfl, rfl, (SqL.of (S571.bM _ _ h373)), a591, _, rfl, _, _, _, _, rfl, rfl, (SqL.of (S571.bM _ _ h594)), (atI_map g595), _, h572, (app_lenM z587), ?_⟩
        generalize g596 : upd H570 D539 _ = H597
        obtain ⟨x598, h599⟩ := gen_mut g596
        have S600 := S571.mut1 x598 (.head _) h599
        have hw := cW_ok hw
        have h601 := (x598 _ _ h582 (ne_of_none h519 n540))
        have h602 := (x598 _ _ h583 (ne_of_none h529 n540))
        have h603 := (x598 _ _ h584 (ne_of_none h530 n540))
        have w604 : OwAll G573 H597 L525 (vs523) ((acc522 : (List (List Int))).map (oL oI)) := (OwAll.mono (Same.refl _) (keeps_mut x598 ((there_ne (fun b_ hb_ => (S518.ow b_ (((fun b hb => (.tail _ (List.mem_append_left _ hb))) : ∀ b ∈ L525, b ∈ (D490 :: (L525 ++ (D380 :: (D436 :: []))))) b_ hb_)).2.1) n540) : ∀ b ∈ L525, b ≠ D539)) w585)
        exact ⟨_, (acc575 ++ [(itD ((itD (plane') (x531))) (x586))]), eG574, S600, h601, h602, h603, (snoc_map h599), w604, (same_mut eo581 x598 n540), hw⟩
      intro H605 hw
      obtain ⟨G608, acc610, eG609, S606, h617, h618, h619, h607, w620, eo616, hw⟩ := hw
      have hw := hK538 _ (cW_mapA0 (by rw [List.length_map]) hw)
      have fr621 := S518.free n540
      refine ⟨_, h617, (app_len (OwAll.rpA w620 (encO_L encO_I) S606.sG) z532), ?_⟩
      generalize g622 : upd H605 D490 _ = H623
      obtain ⟨x624, h625⟩ := gen_mut g622
      have S626 := S606.mut1 x624 (.tail _ (.head _)) h625
      have hw := cW_ok hw
      have h627 := (x624 _ _ h618 (ne_of_none h483 n491))
      have h628 := (x624 _ _ h619 (ne_of_none h473 n491))
      exact ⟨_, (acc522 ++ [acc610]), _, (L525 ++ (D539 :: ([] : List Addr))), (Same.trans eG521 eG609), (S626.sub (all_cons (.tail _ (.head _)) (all_app (all_app ((fun b hb => (.tail _ (.tail _ (.tail _ (.tail _ (List.mem_append_left _ hb)))))) : ∀ b ∈ L525, b ∈ (D539 :: (D490 :: (D380 :: (D436 :: (L525 ++ [])))))) (all_cons (.head _) all_nil)) (all_cons (.tail _ (.tail _ (.head _))) (all_cons (.tail _ (.tail _ (.tail _ (.head _)))) all_nil))))), h627, h628, h625, (OwAll.mono (Same.refl _) (keeps_mut x624 ((all_app nd527 (all_cons (ne_of_none h519 n540).symm all_nil)) : ∀ b ∈ (L525 ++ (D539 :: ([] : List Addr))), b ≠ D490)) (OwAll.snocM w620 (Ow.ints h607) ((fun b hb => (nm_cons ((there_ne (fun b_ hb_ => (S518.ow b_ (((fun b hb => (.tail _ (List.mem_append_left _ hb))) : ∀ b ∈ L525, b ∈ (D490 :: (L525 ++ (D380 :: (D436 :: []))))) b_ hb_)).2.1) n540) b hb) nm_nil)) : ∀ b ∈ L525, b ∉ (D539 :: ([] : List Addr))))), ((all_app nb526 (all_cons (none_of_same eo528 n540) all_nil)) : ∀ b ∈ (L525 ++ (D539 :: ([] : List Addr))), H471 b = none), ((all_app nd527 (all_cons (ne_of_none h519 n540).symm all_nil)) : ∀ b ∈ (L525 ++ (D539 :: ([] : List Addr))), b ≠ D490), (same_mut (Same.trans eo528 eo616) x624 n491), hw⟩
    intro H629 hw
    obtain ⟨G632, acc634, vs635, L637, eG633, S630, h641, h642, h631, d636, nb638, nd639, eo640, hw⟩ := hw
    have hw := hK489 _ (cW_mapA0 (by rw [List.length_map]) hw)
    have fr643 := S472.free n491
    have hw := cW_ok hw
    exact hK0 _ hw _ _ _ _ _ fr643 ((fun b hb => Sep.h0 S630 (((fun b hb => (.tail _ (List.mem_append_left _ hb))) : ∀ b ∈ L637, b ∈ (D490 :: (L637 ++ (D380 :: (D436 :: []))))) b hb) nm_nil) : ∀ b ∈ L637, H b = none) (nd639 : ∀ b ∈ L637, b ≠ D490) S630.b0 S630.g0 S630.sG S630.gn (S630.ow _ (.head _)).1 ((fun b hb => (S630.ow b (((fun b hb => (.tail _ (List.mem_append_left _ hb))) : ∀ b ∈ L637, b ∈ (D490 :: (L637 ++ (D380 :: (D436 :: []))))) b hb)).1) : ∀ b ∈ L637, G632 b = none) h631 d636

abbrev N__weighted : List Str := ["weights", "lines", "p", "q", "r", "s", "t", "u", "a", "b", "c", "d", "e", "f"]
theorem sc__weighted : FnScope N__weighted ["weights", "lines"] (defScope s__weighted) := ⟨rfl, rfl, rfl, by decide +kernel, rfl, by decide +kernel, by decide +kernel⟩
theorem ok__weighted (D : DefX K mg "_weighted" s__weighted ["weights", "lines"] pats__weighted) (T : Txt K mg AD)  : CalX P w K mg base 1 "_weighted" (sp__weighted K AD) pats__weighted := by
  refine D.ok sc__weighted (fun vs H Q E h => ?_) (fun f cdv A_ outer s H vs Q E hr h => ?_)
  · obtain ⟨G, a_weights, weights', v_lines, lines', rfl, _⟩ := h
    rfl
  · obtain ⟨G, a_weights, weights', v_lines, lines', rfl, sG, q_weights, r_lines, hw⟩ := h
    refine ⟨_, (C8.pss_cut (ps_asg (pv 0) (pg_tupK (K := K) (n := 6) (pgs_cons (pg_name (i := 2) sc__weighted.nd rfl (Or.inr rfl)) (pgs_cons (pg_name (i := 3) sc__weighted.nd rfl (Or.inr rfl)) (pgs_cons (pg_name (i := 4) sc__weighted.nd rfl (Or.inr rfl)) (pgs_cons (pg_name (i := 5) sc__weighted.nd rfl (Or.inr rfl)) (pgs_cons (pg_name (i := 6) sc__weighted.nd rfl (Or.inr rfl)) (pgs_cons (pg_name (i := 7) sc__weighted.nd rfl (Or.inr rfl)) pgs_nil))))))))
      (pss_one (ps_ret (pe_lc (own := [("a", 8), ("b", 9), ("c", 10), ("d", 11), ("e", 12), ("f", 13)]) (g := gTup K 6 (gCons (gName 8) (gCons (gName 9) (gCons (gName 10) (gCons (gName 11) (gCons (gName 12) (gCons (gName 13) gNil))))))) (by rfl) sc__weighted.nd (Vz.pi_zipN (K := K) rfl T.b_zip (pv 1)) (blkOk_by (own := [("a", 8), ("b", 9), ("c", 10), ("d", 11), ("e", 12), ("f", 13)]) (N := N__weighted) (sc := defScope s__weighted) (by decide +kernel)) (fun _ _ _ _ _ => (pg_tupK (K := K) (n := 6) (pgs_cons (pg_name (i := 8) sc__weighted.nd rfl (Or.inl rfl)) (pgs_cons (pg_name (i := 9) sc__weighted.nd rfl (Or.inl rfl)) (pgs_cons (pg_name (i := 10) sc__weighted.nd rfl (Or.inl rfl)) (pgs_cons (pg_name (i := 11) sc__weighted.nd rfl (Or.inl rfl)) (pgs_cons (pg_name (i := 12) sc__weighted.nd rfl (Or.inl rfl)) (pgs_cons (pg_name (i := 13) sc__weighted.nd rfl (Or.inl rfl)) pgs_nil)))))))) (fun _ _ _ _ _ => pts_nil) (fun _ _ _ _ _ => (pe_op op_add (pe_op op_add (pe_op op_add (pe_op op_add (pe_op op_add (pe_op op_mul (pv 2) (pv 8)) (pe_op op_mul (pv 3) (pv 9))) (pe_op op_mul (pv 4) (pv 10))) (pe_op op_mul (pv 5) (pv 11))) (pe_op op_mul (pv 6) (pv 12))) (pe_op op_mul (pv 7) (pv 13)))))))), ?_⟩
    obtain ⟨KK, EE, hK0, hE, hw⟩ := cW_gen hw
    have S0 := Sep.startG sG
    unfold F__weighted at hw
    obtain ⟨a644, vs645, rfl, h646, d647⟩ := rp_list r_lines
    refine ⟨fun σ H' => ∃ (p_655 : Int) (q_656 : Int) (r_657 : Int) (s_658 : Int) (t_659 : Int) (u_660 : Int) (G' : Hp), σ = [some (V.ref a_weights), some (V.ref a644), some (V.int p_655), some (V.int q_656), some (V.int r_657), some (V.int s_658), some (V.int t_659), some (V.int u_660), none, none, none, none, none, none] ∧ Same G G' ∧ Sep [] H G G' H' [] ∧ cW (F__weighted_k1 (lines') p_655 q_656 r_657 s_658 t_659 u_660) KK EE, ?_, ?_⟩
    · obtain ⟨K661, hK662, hw⟩ := cW_push hw
      obtain ⟨g663, hw⟩ := cW_grd hw
      refine ⟨_, rfl, _, [V.int ((itD (weights') 0)), V.int ((itD (weights') 1)), V.int ((itD (weights') 2)), V.int ((itD (weights') 3)), V.int ((itD (weights') 4)), V.int ((itD (weights') 5))], rfl, (SqT.cast (q_weights _) (unp6 g663)), rfl, _, _, rfl, _, _, rfl, _, _, rfl, _, _, rfl, _, _, rfl, _, _, rfl, rfl, ?_⟩
      have hw := cW_bnd hw
      have hw := cW_bnd hw
      have hw := cW_bnd hw
      have hw := cW_bnd hw
      have hw := cW_bnd hw
      have hw := cW_bnd hw
      have hw := cW_ok hw
      have hw := hK662 _ hw
      exact ⟨((itD (weights') 0)), ((itD (weights') 1)), ((itD (weights') 2)), ((itD (weights') 3)), ((itD (weights') 4)), ((itD (weights') 5)), _, rfl, (Same.refl _), S0, hw⟩
    · intro σ H670 hw
      obtain ⟨p_655, q_656, r_657, s_658, t_659, u_660, G672, rfl, eG673, S671, hw⟩ := hw
      unfold F__weighted_k1 at hw
      obtain ⟨g674, hw⟩ := cW_grd hw
      obtain ⟨ls675, els676, rws677⟩ := rows_rp (K := K) S671.bM d647
      obtain ⟨K685, hK686, hw⟩ := cW_push hw
      refine ⟨_, rfl, _, ls675, rfl, (SqL.cast (SqL.of (S671.bM _ _ h646)) els676), (by rw [rws677.1]; exact g674), rws677.all, fun D687 n688 => lc_zipN (K := K) (ls := ls675) (xss := lines') (ne_of_len g674) (fun i H' => ∃ (G' : Hp) (acc690 : (List Int)), Same G672 G' ∧ Sep [] H G G' H' [D687] ∧ H' D687 = some (.lst ((acc690 : (List Int)).map V.int)) ∧ Same H670 H' ∧ cW (mapA (List.drop i (zipRows (lines'))) acc690 (fun x => noEr (F__weighted_c2 (p_655) (q_656) (r_657) (s_658) (t_659) (u_660) x))) K685 EE) ?_ ?_ ?_ ?_⟩
      · generalize g692 : upd H670 D687 _ = H693
        obtain ⟨e694, h695⟩ := gen_new n688 g692
        have fr696 := S671.free n688
        have S697 := S671.new n688 e694 h695 fr696
        exact ⟨_, [], Same.refl _, S697, h695, e694, hw⟩
      · intro i H698 _ hw
        obtain ⟨G701, acc703, eG702, S699, h700, eo709, hw⟩ := hw
        exact RowsAt.again els676 (rows_rp (K := K) S699.bM d647)
      · intro i T_ H710 hi n711 hw
        obtain ⟨G714, acc716, eG715, S712, h713, eo722, hw⟩ := hw
        generalize g723 : upd H710 T_ _ = H724
        obtain ⟨e725, h726⟩ := gen_new n711 g723
        have h727 : H724 T_ = some (.tup ((colOf (lines') i).map V.int)) := h726
        have fr728 := S712.free n711
        obtain ⟨G730, eG731, hg732, S729⟩ := S712.grow n711 e725 h727 fr728
        obtain ⟨z733, hw⟩ := cW_mapA (zipRows_get hi) hw
        have hw := cW_noEr hw
        have hw : cW (F__weighted_c2 (p_655) (q_656) (r_657) (s_658) (t_659) (u_660) ((colOf (lines') i))) _ (fun _ => False) := hw
        unfold F__weighted_c2 at hw
        obtain ⟨g735, hw⟩ := cW_grd hw
        refine ⟨_, [V.int ((itD ((colOf (lines') i)) 0)), V.int ((itD ((colOf (lines') i)) 1)), V.int ((itD ((colOf (lines') i)) 2)), V.int ((itD ((colOf (lines') i)) 3)), V.int ((itD ((colOf (lines') i)) 4)), V.int ((itD ((colOf (lines') i)) 5))], rfl, (SqT.cast (SqT.of (S729.sG _ _ hg732)) (unp6 g735)), rfl, _, _, rfl, _, _, rfl, _, _, rfl, _, _, rfl, _, _, rfl, _, _, rfl, rfl, ((wipe_set (by decide)).trans ((wipe_set (by decide)).trans ((wipe_set (by decide)).trans ((wipe_set (by decide)).trans ((wipe_set (by decide)).trans ((wipe_set (by decide)).trans wipe_wipe)))))), ?_⟩
        refine tyes_go ?_
        obtain ⟨g736, hw⟩ := cW_grd hw
        obtain ⟨g737, hw⟩ := cW_grd hw
        obtain ⟨g738, hw⟩ := cW_grd hw
        obtain ⟨g739, hw⟩ := cW_grd hw
        obtain ⟨g740, hw⟩ := cW_grd hw
        obtain ⟨g741, hw⟩ := cW_grd hw
        have h742 := (e725 _ _ h713)
        refine ⟨_, rfl, _, rfl, _, _, rfl, rfl, g736, _, rfl, _, rfl, _, _, rfl, rfl, g737, _, _, rfl, rfl, _, rfl, _, rfl, _, _, rfl, rfl, g738, _, _, rfl, rfl, _, rfl, _, rfl, _, _, rfl, rfl, g739, _, _, rfl, rfl, _, rfl, _, rfl, _, _, rfl, rfl, g740, _, _, rfl, rfl, _, rfl, _, rfl, _, _, rfl, rfl, g741, _, _, rfl, rfl, _, h742, (app_lenM z733), ?_⟩
        generalize g743 : upd H724 D687 _ = H744
        obtain ⟨x745, h746⟩ := gen_mut g743
        have S747 := S729.mut1 x745 (.head _) h746
        have hw := cW_ok hw
        exact ⟨_, (acc716 ++ [((((((p_655 * (itD ((colOf (lines') i)) 0)) + (q_656 * (itD ((colOf (lines') i)) 1))) + (r_657 * (itD ((colOf (lines') i)) 2))) + (s_658 * (itD ((colOf (lines') i)) 3))) + (t_659 * (itD ((colOf (lines') i)) 4))) + (u_660 * (itD ((colOf (lines') i)) 5)))]), (Same.trans eG715 eG731), S747, (snoc_map h746), (same_mut (Same.trans eo722 e725) x745 n688), hw⟩
      intro H748 hw
      obtain ⟨G751, acc753, eG752, S749, h750, eo759, hw⟩ := hw
      have hw := hK686 _ (cW_mapA0 (zipRows_len _).symm hw)
      have fr760 := S671.free n688
      have hw := cW_ok hw
      exact hK0 _ hw _ _ fr760 S749.b0 h750

abbrev N_quarter_area : List Str := ["plane", "x", "y", "width", "height", "top", "f", "g", "sums", "row", "s", "t", "value"]
theorem sc_quarter_area : FnScope N_quarter_area ["plane", "x", "y", "width", "height", "top"] (defScope s_quarter_area) := ⟨rfl, rfl, rfl, by decide +kernel, rfl, by decide +kernel, by decide +kernel⟩
theorem ok_quarter_area (D : DefX K mg "quarter_area" s_quarter_area ["plane", "x", "y", "width", "height", "top"] pats_quarter_area) (T : Txt K mg AD) (c__samples : CalX P w K mg base 2 "_samples" (sp__samples K AD) pats__samples) (c__weighted : CalX P w K mg base 1 "_weighted" (sp__weighted K AD) pats__weighted) (c_clip : CalX P w K mg base 1 "clip" (sp_clip K AD) pats_clip) : CalX P w K mg base 3 "quarter_area" (sp_quarter_area K AD) pats_quarter_area := by
  refine D.ok sc_quarter_area (fun vs H Q E h => ?_) (fun f cdv A_ outer s H vs Q E hr h => ?_)
  · obtain ⟨G, v_plane, plane', x', y', width', height', top', rfl, _⟩ := h
    rfl
  · obtain ⟨G, v_plane, plane', x', y', width', height', top', rfl, sG, r_plane, hw⟩ := h
    refine ⟨_, (pss_cons (ps_set (i := 6) sc_quarter_area.nd rfl (Or.inl rfl) (pe_op op_and (pv 1) pe_int))
      (pss_cons (ps_set (i := 7) sc_quarter_area.nd rfl (Or.inr rfl) (pe_op op_and (pv 2) pe_int))
      (pss_cons (ps_if (PW.pt (pw_and (pt_cmp (pc_eqI (pv 6) pe_int)) (pw_and1 (pt_cmp (pc_eqI (pv 7) pe_int))))) (pss_one (ps_ret (vx_callX c__samples pat__samples_0 (.head _) hr (by decide) (takes_of rfl rfl rfl rfl) rfl (pa_cons (pv 0) (pa_cons (pe_op op_shr (pv 1) pe_int) (pa_cons (pe_op op_shr (pv 2) pe_int) (pa_cons (pv 3) (pa_cons (pv 4) pa_nil))))) pk_nil))) pss_nil)
      (pss_cons (ps_set (i := 8) sc_quarter_area.nd rfl (Or.inr rfl) (pe_lst pa_nil))
      (pss_cons (ps_for (passes_of rfl) rfl (pi_listK (K := K) (vx_callX c__samples pat__samples_0 (.head _) hr (by decide) (takes_of rfl rfl rfl rfl) rfl (pa_cons (pv 0) (pa_cons (pe_op op_sub (pe_op op_shr (pv 1) pe_int) pe_int) (pa_cons (pe_op op_sub (pe_op op_shr (pv 2) pe_int) pe_int) (pa_cons (pe_op op_add (pv 3) pe_int) (pa_cons (pe_op op_add (pv 4) pe_int) pa_nil))))) pk_nil)) (pg_name (i := 9) sc_quarter_area.nd rfl (Or.inr rfl)) (pss_one (ps_expr (pe_bm PySem.F.plainAttrs_list PySem.F.slot_list_append PySem.F.type_list_append mt_append (pv 8) (pa_cons (vx_callX c__weighted pat__weighted_0 (.head _) hr (by decide) (takes_of rfl rfl rfl rfl) rfl (pa_cons (pe_ix (ix_tupK (K := K)) (C8.pe_gc (v := V.ref AD.t_WEIGHTS) rfl T.g_WEIGHTS) (pv 6) (fun _ _ => rfl)) (pa_cons (pe_lc (own := [("s", 10)]) (g := gName 10) (by rfl) sc_quarter_area.nd (pi_range1 rfl T.b_range (pa_cons pe_int pa_nil)) (blkOk_by (own := [("s", 10)]) (N := N_quarter_area) (sc := defScope s_quarter_area) (by decide +kernel)) (fun _ _ _ _ _ => (pg_name (i := 10) sc_quarter_area.nd rfl (Or.inl rfl))) (fun _ _ _ _ _ => pts_nil) (fun _ _ _ _ _ => (pe_slice (sl_listK (K := K)) (pv 9) (po_some (pv 10)) (po_some (pe_op op_add (pv 10) (pv 3)))))) pa_nil)) pk_nil) pa_nil)))))
      (pss_one (ps_ret (pe_lc (own := [("t", 11)]) (g := gName 11) (by rfl) sc_quarter_area.nd (pi_range1 rfl T.b_range (pa_cons (pv 4) pa_nil)) (blkOk_by (own := [("t", 11)]) (N := N_quarter_area) (sc := defScope s_quarter_area) (by decide +kernel)) (fun _ _ _ _ _ => (pg_name (i := 11) sc_quarter_area.nd rfl (Or.inl rfl))) (fun _ _ _ _ _ => pts_nil) (fun _ _ _ _ _ => (pe_lc (own := [("value", 12)]) (g := gName 12) (by rfl) sc_quarter_area.nd (pi_listK (K := K) (vx_callX c__weighted pat__weighted_0 (.head _) hr (by decide) takes0 rfl (pa_cons (pe_ix (ix_tupK (K := K)) (C8.pe_gc (v := V.ref AD.t_WEIGHTS) rfl T.g_WEIGHTS) (pv 7) (fun _ _ => rfl)) (pa_cons (pe_slice (sl_listK (K := K)) (pv 8) (po_some (pv 11)) (po_some (pe_op op_add (pv 11) pe_int))) pa_nil)) pk_nil)) (blk_relabel (blkOk_by (own := [("value", 12)]) (N := N_quarter_area) (by decide +kernel))) (fun _ _ _ _ _ => (pg_name (i := 12) sc_quarter_area.nd rfl (Or.inl rfl))) (fun _ _ _ _ _ => pts_nil) (fun _ _ _ _ _ => (vx_callX c_clip pat_clip_0 (.head _) hr (by decide) takes0 rfl (pa_cons (pe_op op_shr (pe_op op_add (pv 12) pe_int) pe_int) (pa_cons pe_int (pa_cons (pv 5) pa_nil))) pk_nil)))))))))))), ?_⟩
    obtain ⟨KK, EE, hK0, hE, hw⟩ := cW_gen hw
    have S0 := Sep.startG sG
    unfold F_quarter_area at hw
    obtain ⟨a761, vs762, rfl, h763, d764⟩ := rp_list r_plane
    refine ⟨_, rfl, _, _, rfl, rfl, ?_⟩
    have hw := cW_bnd hw
    refine ⟨_, rfl, _, _, rfl, rfl, ?_⟩
    have hw := cW_bnd hw
    refine ⟨_, rfl, _, _, rfl, rfl, _, rfl, ?_⟩
    refine iteD (fun c767 => ?_) (fun c767 => ?_)
    · have hw := cW_pos c767 hw
      refine ⟨_, rfl, _, _, rfl, rfl, _, rfl, ?_⟩
      refine iteD (fun c768 => ?_) (fun c768 => ?_)
      · have hw := cW_pos c768 hw
        refine ⟨_, rfl, _, rfl, _, _, rfl, rfl, (show (0 : Int) ≤ 2 by decide), _, rfl, _, _, rfl, rfl, (show (0 : Int) ≤ 2 by decide), _, rfl, _, rfl, rfl, rfl, G, _, _, _, _, _, _, rfl, S0.sG, (Rp.hide_nil (rp_mk_list (S0.bM _ _ h763) (RpAll.mono S0.bM d764))), cW_call hw (fun v769 hw H770 a772 vs773 L774 G775 n776 nb777 nd778 e771 eG779 sG780 hn781 ga782 gL783 h784 w785 => ?_) (fun e he H2 e2 => hE e he H2 (Same.trans S0.b0 e2))⟩
        have fr786 := S0.free n776
        have S787 : Sep _ _ _ _ H770 (a772 :: (L774 ++ [])) := Sep.steptree S0 e771 eG779 sG780 hn781 (a772 :: L774) (all_cons ⟨n776, ga782, some_ne h784⟩ (fun b hb => ⟨nb777 b hb, gL783 b hb, OwAll.there w785 b hb⟩))
        have hw := cW_ok hw
        exact hK0 _ hw _ _ _ _ _ fr786 ((fun b hb => Sep.h0 S787 (((fun b hb => (.tail _ (List.mem_append_left _ hb))) : ∀ b ∈ L774, b ∈ (a772 :: (L774 ++ []))) b hb) nm_nil) : ∀ b ∈ L774, H b = none) (nd778 : ∀ b ∈ L774, b ≠ a772) S787.b0 S787.g0 S787.sG S787.gn (S787.ow _ (.head _)).1 ((fun b hb => (S787.ow b (((fun b hb => (.tail _ (List.mem_append_left _ hb))) : ∀ b ∈ L774, b ∈ (a772 :: (L774 ++ []))) b hb)).1) : ∀ b ∈ L774, G775 b = none) h784 w785
      · have hw := cW_neg c768 hw
        refine ⟨(by show 0 ≤ sizeLine; decide), fun p788 n789 => ?_⟩
        generalize g790 : upd H p788 _ = H791
        obtain ⟨e792, h793⟩ := gen_new n789 g790
        have h794 : H791 p788 = some (.lst ([])) := h793
        have fr795 := S0.free n789
        have S796 := S0.new n789 e792 h794 fr795
        have d797 : RpAll G ([]) ((([] : (List (List Int))) : (List (List Int))).map (encL PyData.int)) := RpAll.nil
        refine ⟨_, rfl, _, rfl, _, _, rfl, rfl, (show (0 : Int) ≤ 2 by decide), _, _, rfl, rfl, _, rfl, _, _, rfl, rfl, (show (0 : Int) ≤ 2 by decide), _, _, rfl, rfl, _, rfl, _, _, rfl, rfl, _, rfl, _, _, rfl, rfl, rfl, rfl, G, _, _, _, _, _, _, rfl, S796.sG, (Rp.hide_nil (rp_mk_list (S796.bM _ _ h763) (RpAll.mono S796.bM d764))), cW_call hw (fun v798 hw H799 a801 vs802 L803 G804 n805 nb806 nd807 e800 eG808 sG809 hn810 ga811 gL812 h813 w814 => ?_) (fun e he H2 e2 => hE e he H2 (Same.trans S796.b0 e2))⟩
        have fr815 := S796.free n805
        have S816 : Sep _ _ _ _ H799 (a801 :: (L803 ++ (p788 :: []))) := Sep.steptree S796 e800 eG808 sG809 hn810 (a801 :: L803) (all_cons ⟨n805, ga811, some_ne h813⟩ (fun b hb => ⟨nb806 b hb, gL812 b hb, OwAll.there w814 b hb⟩))
        obtain ⟨K822, hK823, hw⟩ := cW_push hw
        refine ⟨_, rfl, ⟨_, (SqL.of h813)⟩, for_list (K := K) (a := a801) (xs := vs802) (fun i σ H' => ∃ (sums_824 : (List (List Int))) (vs825 : List V) (u826 : Option V) (G' : Hp), σ = [some (V.ref a761), some (V.int (x')), some (V.int (y')), some (V.int (width')), some (V.int (height')), some (V.int (top')), some (V.int ((PySem.Builtin.bitAnd (x') (3)))), some (V.int ((PySem.Builtin.bitAnd (y') (3)))), some (V.ref p788), u826, none, none, none] ∧ Same G804 G' ∧ Sep [] H G G' H' (p788 :: (a801 :: (L803 ++ []))) ∧ H' p788 = some (.lst (vs825)) ∧ H' a801 = some (.lst (vs802)) ∧ RpAll G' (vs825) ((sums_824 : (List (List Int))).map (encL PyData.int)) ∧ OwAll G' H' L803 (vs802) ((v798 : (List (List Int))).map (oL oI)) ∧ cW (forS (List.drop i (v798)) sums_824 (fun s x => F_quarter_area_b1 (width') ((PySem.Builtin.bitAnd (x') (3))) s x)) K822 EE) ?_ ?_ ?_ ?_⟩
        · have h827 := (e800 _ _ h794)
          exact ⟨(([] : (List (List Int)))), _, _, _, rfl, (Same.refl _), (S816.sub (all_cons (.tail _ (List.mem_append_right _ (.head _))) (all_cons (.head _) (all_app ((fun b hb => (.tail _ (List.mem_append_left _ hb))) : ∀ b ∈ L803, b ∈ (a801 :: (L803 ++ (p788 :: [])))) all_nil)))), h827, h813, (RpAll.mono eG808 d797), w814, hw⟩
        · intro i σ H828 _ hw
          obtain ⟨sums_824, vs825, u826, G834, rfl, eG835, S829, h830, h831, d832, w833, hw⟩ := hw
          exact (SqL.of h831)
        · intro i x σ H836 hj hw
          obtain ⟨sums_824, vs825, u826, G842, rfl, eG843, S837, h838, h839, d840, w841, hw⟩ := hw
          obtain ⟨x844, L845, hx, w846, hs847⟩ := OwAll.turn w841 hj
          obtain ⟨b848, rfl, rfl, h849⟩ := Ow.toInts w846
          have hv850 := hj
          have hx851 := hx
          have hw := cW_forS hx hw
          have hw : cW (F_quarter_area_b1 (width') ((PySem.Builtin.bitAnd (x') (3))) (sums_824) (x844)) _ EE := hw
          unfold F_quarter_area_b1 at hw
          obtain ⟨K853, hK854, hw⟩ := cW_name hw
          obtain ⟨g856, hw⟩ := cW_grd hw
          obtain ⟨K860, hK861, hw⟩ := cW_push hw
          refine ⟨_, rfl, (.inl ⟨rfl, _, SqL.of h838⟩), _, rfl, _, _, _, _, rfl, rfl, (T.ts_WEIGHTS _), (atI_map (xs := ([AD.t_WEIGHTS_0, AD.t_WEIGHTS_1, AD.t_WEIGHTS_2, AD.t_WEIGHTS_3] : List Addr)) (by show -(4 : Int) ≤ _ ∧ _ < (4 : Int); exact ⟨by have := g856.1; omega, g856.2⟩)), _, rfl, (by decide), (by decide), fun D862 n863 => lc_range (lo := 0) (n := Int.toNat (6)) (fun i H' => ∃ (G' : Hp) (acc865 : (List (List Int))) (vs866 : List V), Same G842 G' ∧ Sep [] H G G' H' (D862 :: (a801 :: (p788 :: (L803 ++ [])))) ∧ H' a801 = some (.lst (vs802)) ∧ H' p788 = some (.lst (vs825)) ∧ H' D862 = some (.lst vs866) ∧ OwAll G' H' L803 (vs802) ((v798 : (List (List Int))).map (oL oI)) ∧ RpAll G' vs866 ((acc865 : (List (List Int))).map (encL PyData.int)) ∧ Same H836 H' ∧ cW (mapA (List.drop i (rng (0) (Int.toNat (6)))) acc865 (fun x => noEr (F_quarter_area_c2 (width') (x844) x))) K860 EE) ?_ ?_ ?_⟩
          · generalize g867 : upd H836 D862 _ = H868
            obtain ⟨e869, h870⟩ := gen_new n863 g867
            have fr871 := S837.free n863
            have S872 := S837.new n863 e869 h870 fr871
            have h873 := (e869 _ _ h839)
            have h874 := (e869 _ _ h838)
            have w875 : OwAll G842 H868 L803 (vs802) ((v798 : (List (List Int))).map (oL oI)) := (OwAll.mono (Same.refl _) (keeps_same e869) w841)
            exact ⟨_, [], [], Same.refl _, (S872.sub (all_cons (.head _) (all_cons (.tail _ (.tail _ (.head _))) (all_cons (.tail _ (.head _)) (all_app ((fun b hb => (.tail _ (.tail _ (.tail _ (List.mem_append_left _ hb))))) : ∀ b ∈ L803, b ∈ (D862 :: (p788 :: (a801 :: (L803 ++ []))))) all_nil))))), h873, h874, h870, w875, RpAll.nil, e869, hw⟩
          · intro i H876 hi hw
            obtain ⟨G879, acc881, vs882, eG880, S877, h888, h889, h878, w890, d883, eo887, hw⟩ := hw
            obtain ⟨z891, hw⟩ := cW_mapA (rng_get hi) hw
            generalize (0 + (i : Int)) = x892 at hw ⊢
            have hw := cW_noEr hw
            have hw : cW (F_quarter_area_c2 (width') (x844) (x892)) _ (fun _ => False) := hw
            unfold F_quarter_area_c2 at hw
            refine ⟨rfl, ?_⟩
            refine tyes_go ?_
            have h894 := (eo887 _ _ h849)
            refine ⟨_, rfl, _, rfl, _, rfl, _, rfl, _, rfl, _, _, rfl, rfl, _, rfl, _, _, rfl, (SqL.of h894), fun p895 n896 => ?_⟩
            generalize g897 : upd H876 p895 _ = H898
            obtain ⟨e899, h900⟩ := gen_new n896 g897
            have h901 : H898 p895 = some (.lst ((cutL (x844) (some (x892)) (some ((x892 + width'))) : (List Int)).map V.int)) := cut_map h900
            have fr902 := S877.free n896
            have S903 := S877.new n896 e899 h901 fr902
            obtain ⟨G904, eG905, hg906, S907⟩ := Sep.freeze (O' := (D862 :: (a801 :: (p788 :: (L803 ++ []))))) S903 (.head _) h901 fr902 ((all_cons ⟨(.tail _ (.head _)), (ne_of_none h878 n896)⟩ (all_cons ⟨(.tail _ (.tail _ (.head _))), (ne_of_none h888 n896)⟩ (all_cons ⟨(.tail _ (.tail _ (.tail _ (.head _)))), (ne_of_none h889 n896)⟩ (all_app (fun b hb => ⟨((fun b hb => (.tail _ (.tail _ (.tail _ (.tail _ (List.mem_append_left _ hb)))))) : ∀ b ∈ L803, b ∈ (p895 :: (D862 :: (a801 :: (p788 :: (L803 ++ [])))))) b hb, (there_ne (fun b_ hb_ => (S877.ow b_ (((fun b hb => (.tail _ (.tail _ (.tail _ (List.mem_append_left _ hb))))) : ∀ b ∈ L803, b ∈ (D862 :: (a801 :: (p788 :: (L803 ++ []))))) b_ hb_)).2.1) n896) b hb⟩) all_nil)))))
            have h908 := (e899 _ _ h878)
            refine ⟨_, h908, (app_len (RpAll.mono eG905 d883) z891), ?_⟩
            generalize g909 : upd H898 D862 _ = H910
            obtain ⟨x911, h912⟩ := gen_mut g909
            have S913 := S907.mut1 x911 (.head _) h912
            have hw := cW_ok hw
            have h914 := (x911 _ _ (e899 _ _ h888) (ne_of_none h839 n863))
            have h915 := (x911 _ _ (e899 _ _ h889) (ne_of_none h838 n863))
            have w916 : OwAll G904 H910 L803 (vs802) ((v798 : (List (List Int))).map (oL oI)) := (OwAll.mono eG905 keeps_refl (OwAll.mono (Same.refl _) (keeps_mut x911 ((there_ne (fun b_ hb_ => (S837.ow b_ (((fun b hb => (.tail _ (.tail _ (List.mem_append_left _ hb)))) : ∀ b ∈ L803, b ∈ (p788 :: (a801 :: (L803 ++ [])))) b_ hb_)).2.1) n863) : ∀ b ∈ L803, b ≠ D862)) (OwAll.mono (Same.refl _) (keeps_same e899) w890)))
            exact ⟨_, (acc881 ++ [cutL (x844) (some (x892)) (some ((x892 + width')))]), _, (Same.trans eG880 eG905), S913, h914, h915, h912, w916, (app_map (RpAll.mono eG905 d883) (RpAll.one (rp_mk_ints hg906))), (same_mut (Same.trans eo887 e899) x911 n863), hw⟩
          intro H917 hw
          obtain ⟨G920, acc922, vs923, eG921, S918, h929, h930, h919, w931, d924, eo928, hw⟩ := hw
          have hw := hK861 _ (cW_mapA0 (rng_len _ _).symm hw)
          have fr932 := S837.free n863
          refine ⟨rfl, rfl, G920, _, _, _, _, rfl, S918.sG, (T.tt_WEIGHTS _ g856.1 g856.2), (Rp.hide_nil (rp_mk_list h919 (RpAll.mono S918.sG d924))), cW_call hw (fun v933 hw p936 H934 n937 e935 h938 => ?_) (fun e he H2 e2 => hE e he H2 (Same.trans S918.b0 e2))⟩
          have h939 : H934 p936 = some (.lst ((v933 : (List Int)).map V.int)) := h938
          have fr940 := S918.free n937
          have S941 := S918.new n937 e935 h939 fr940
          obtain ⟨g942, hw⟩ := cW_grd hw
          have h943 := (e935 _ _ h930)
          obtain ⟨G944, eG945, hg946, S947⟩ := Sep.freeze (O' := (D862 :: (a801 :: (p788 :: (L803 ++ []))))) S941 (.head _) h939 fr940 ((all_cons ⟨(.tail _ (.head _)), (ne_of_none h919 n937)⟩ (all_cons ⟨(.tail _ (.tail _ (.head _))), (ne_of_none h929 n937)⟩ (all_cons ⟨(.tail _ (.tail _ (.tail _ (.head _)))), (ne_of_none h930 n937)⟩ (all_app (fun b hb => ⟨((fun b hb => (.tail _ (.tail _ (.tail _ (.tail _ (List.mem_append_left _ hb)))))) : ∀ b ∈ L803, b ∈ (p936 :: (D862 :: (a801 :: (p788 :: (L803 ++ [])))))) b hb, (there_ne (fun b_ hb_ => (S918.ow b_ (((fun b hb => (.tail _ (.tail _ (.tail _ (List.mem_append_left _ hb))))) : ∀ b ∈ L803, b ∈ (D862 :: (a801 :: (p788 :: (L803 ++ []))))) b_ hb_)).2.1) n937) b hb⟩) all_nil)))))
          refine ⟨_, _, _, rfl, rfl, h943, (app_len (RpAll.mono eG945 (RpAll.mono eG921 d840)) g942), ?_⟩
          generalize g948 : upd H934 p788 _ = H949
          obtain ⟨x950, h951⟩ := gen_mut g948
          have h952 : H949 p788 = some (.lst (vs825 ++ [V.ref p936])) := h951
          have S953 := S947.mut1 x950 (.tail _ (.tail _ (.head _))) h952
          have d954 : RpAll G944 (vs825 ++ [V.ref p936]) (((sums_824) ++ [v933] : (List (List Int))).map (encL PyData.int)) := app_map (RpAll.mono eG945 (RpAll.mono eG921 d840)) (RpAll.one (rp_mk_ints hg946))
          have hw := cW_bnd hw
          have hw := cW_ok hw
          have hw := hK854 _ hw
          have h956 := (x950 _ _ (e935 _ _ h929) (ne_of_none h794 n805).symm)
          have w957 : OwAll G944 H949 L803 (vs802) ((v798 : (List (List Int))).map (oL oI)) := (OwAll.mono eG945 keeps_refl (OwAll.mono (Same.refl _) (keeps_mut x950 ((new_ne2 nb806 (S796.ow _ (.head _)).2.1) : ∀ b ∈ L803, b ≠ p788)) (OwAll.mono (Same.refl _) (keeps_same e935) w931)))
          exact ⟨((sums_824) ++ [v933]), _, _, _, rfl, (Same.trans (Same.trans eG843 eG921) eG945), (S953.sub (all_cons (.tail _ (.tail _ (.head _))) (all_cons (.tail _ (.head _)) (all_app ((fun b hb => (.tail _ (.tail _ (.tail _ (List.mem_append_left _ hb))))) : ∀ b ∈ L803, b ∈ (D862 :: (a801 :: (p788 :: (L803 ++ []))))) all_nil)))), h952, h956, d954, w957, hw⟩
        · intro σ H958 hw
          obtain ⟨sums_824, vs825, u826, G964, rfl, eG965, S959, h960, h961, d962, w963, hw⟩ := hw
          have hw := hK823 _ (cW_forS0 (by rw [(OwAll.rpA w963 (encO_L encO_I) S959.sG).len, List.length_map]) hw)
          have hw : cW (F_quarter_area_r1 (height') (top') ((PySem.Builtin.bitAnd (y') (3))) (sums_824)) _ EE := hw
          unfold F_quarter_area_r1 at hw
          obtain ⟨G967, eG968, hg969, S970⟩ := Sep.freeze (O' := (a801 :: (L803 ++ []))) S959 (.head _) h960 fr795 ((all_cons ⟨(.tail _ (.head _)), (ne_of_none h794 n805).symm⟩ (all_app (fun b hb => ⟨((fun b hb => (.tail _ (.tail _ (List.mem_append_left _ hb)))) : ∀ b ∈ L803, b ∈ (p788 :: (a801 :: (L803 ++ [])))) b hb, (new_ne2 nb806 (S796.ow _ (.head _)).2.1) b hb⟩) all_nil)))
          obtain ⟨g971, hw⟩ := cW_grd hw
          obtain ⟨K976, hK977, hw⟩ := cW_push hw
          refine ⟨_, rfl, _, rfl, g971.1, g971.2, fun D978 n979 => lc_range (lo := 0) (n := Int.toNat (height')) (fun i H' => ∃ (G' : Hp) (acc981 : (List (List Int))) (vs982 : List V) (L980 : List Addr), Same G967 G' ∧ Sep [] H G G' H' (D978 :: (L980 ++ [])) ∧ H' D978 = some (.lst vs982) ∧ OwAll G' H' L980 vs982 ((acc981 : (List (List Int))).map (oL oI)) ∧ (∀ b ∈ L980, H958 b = none) ∧ (∀ b ∈ L980, b ≠ D978) ∧ Same H958 H' ∧ cW (mapA (List.drop i (rng (0) (Int.toNat (height')))) acc981 (fun x => noEr (F_quarter_area_c3 (top') ((PySem.Builtin.bitAnd (y') (3))) (sums_824) x))) K976 EE) ?_ ?_ ?_⟩
          · generalize g983 : upd H958 D978 _ = H984
            obtain ⟨e985, h986⟩ := gen_new n979 g983
            have fr987 := S970.free n979
            have S988 := S970.new n979 e985 h986 fr987
            exact ⟨_, [], [], [], Same.refl _, (S988.sub (all_cons (.head _) (all_app (L := []) all_nil all_nil))), h986, OwAll.nil, all_nil, all_nil, e985, hw⟩
          · intro i H989 hi hw
            obtain ⟨G992, acc994, vs995, L997, eG993, S990, h991, d996, nb998, nd999, eo1000, hw⟩ := hw
            obtain ⟨z1001, hw⟩ := cW_mapA (rng_get hi) hw
            generalize (0 + (i : Int)) = x1002 at hw ⊢
            have hw := cW_noEr hw
            have hw : cW (F_quarter_area_c3 (top') ((PySem.Builtin.bitAnd (y') (3))) (sums_824) (x1002)) _ (fun _ => False) := hw
            unfold F_quarter_area_c3 at hw
            refine ⟨rfl, ?_⟩
            refine tyes_go ?_
            obtain ⟨g1004, hw⟩ := cW_grd hw
            refine ⟨_, rfl, _, _, _, _, rfl, rfl, (T.ts_WEIGHTS _), (atI_map (xs := ([AD.t_WEIGHTS_0, AD.t_WEIGHTS_1, AD.t_WEIGHTS_2, AD.t_WEIGHTS_3] : List Addr)) (by show -(4 : Int) ≤ _ ∧ _ < (4 : Int); exact ⟨by have := g1004.1; omega, g1004.2⟩)), _, rfl, _, rfl, _, rfl, _, rfl, _, _, rfl, rfl, _, rfl, _, _, rfl, (SqL.of (S990.sG _ _ (eG993 _ _ hg969))), fun p1005 n1006 => ?_⟩
            generalize g1007 : upd H989 p1005 _ = H1008
            obtain ⟨e1009, h1010⟩ := gen_new n1006 g1007
            have h1011 : H1008 p1005 = some (.lst (cutV (vs825) (some (x1002)) (some ((x1002 + 6))))) := h1010
            have fr1012 := S990.free n1006
            have S1013 := S990.new n1006 e1009 h1011 fr1012
            have d1014 : RpAll G992 (cutV (vs825) (some (x1002)) (some ((x1002 + 6)))) ((cutL (sums_824) (some (x1002)) (some ((x1002 + 6))) : (List (List Int))).map (encL PyData.int)) := cut_all (some (x1002)) (some ((x1002 + 6))) (RpAll.mono eG993 (RpAll.mono eG968 d962))
            refine ⟨rfl, rfl, G992, _, _, _, _, rfl, S1013.sG, (T.tt_WEIGHTS _ g1004.1 g1004.2), (Rp.hide_nil (rp_mk_list h1011 (RpAll.mono S1013.sG d1014))), cW_call hw (fun v1015 hw p1018 H1016 n1019 e1017 h1020 => ?_) (fun e he => he.elim)⟩
            have h1021 : H1016 p1018 = some (.lst ((v1015 : (List Int)).map V.int)) := h1020
            have fr1022 := S1013.free n1019
            have S1023 := S1013.new n1019 e1017 h1021 fr1022
            obtain ⟨K1026, hK1027, hw⟩ := cW_push hw
            refine ⟨_, rfl, ⟨_, (SqL.of h1021)⟩, fun D1028 n1029 => lc_list (K := K) (a := p1018) (xs := (v1015 : (List Int)).map V.int) (fun i2 H' => ∃ (G' : Hp) (acc1031 : (List Int)), Same G992 G' ∧ Sep [] H G G' H' (D1028 :: (D978 :: (p1018 :: (L997 ++ [])))) ∧ H' D978 = some (.lst (vs995)) ∧ H' p1018 = some (.lst ((v1015 : (List Int)).map V.int)) ∧ H' D1028 = some (.lst ((acc1031 : (List Int)).map V.int)) ∧ OwAll G' H' L997 (vs995) ((acc994 : (List (List Int))).map (oL oI)) ∧ Same H1016 H' ∧ cW (mapA (List.drop i2 (v1015)) acc1031 (fun x => noEr (F_quarter_area_c4 (top') x))) K1026 (fun _ => False)) ?_ ?_ ?_ ?_⟩
            · generalize g1033 : upd H1016 D1028 _ = H1034
              obtain ⟨e1035, h1036⟩ := gen_new n1029 g1033
              have fr1037 := S1023.free n1029
              have S1038 := S1023.new n1029 e1035 h1036 fr1037
              have h1039 := (e1035 _ _ (e1017 _ _ (e1009 _ _ h991)))
              have h1040 := (e1035 _ _ h1021)
              have w1041 : OwAll G992 H1034 L997 (vs995) ((acc994 : (List (List Int))).map (oL oI)) := (OwAll.mono (Same.refl _) (keeps_same e1035) (OwAll.mono (Same.refl _) (keeps_same e1017) (OwAll.mono (Same.refl _) (keeps_same e1009) d996)))
              exact ⟨_, [], Same.refl _, (S1038.sub (all_cons (.head _) (all_cons (.tail _ (.tail _ (.tail _ (.head _)))) (all_cons (.tail _ (.head _)) (all_app ((fun b hb => (.tail _ (.tail _ (.tail _ (.tail _ (List.mem_append_left _ hb)))))) : ∀ b ∈ L997, b ∈ (D1028 :: (p1018 :: (p1005 :: (D978 :: (L997 ++ [])))))) all_nil))))), h1039, h1040, h1036, w1041, e1035, hw⟩
            · intro i2 H1042 _ hw
              obtain ⟨G1045, acc1047, eG1046, S1043, h1054, h1055, h1044, w1056, eo1053, hw⟩ := hw
              exact (SqL.of h1055)
            · intro i2 x H1057 hj hw
              obtain ⟨G1060, acc1062, eG1061, S1058, h1069, h1070, h1059, w1071, eo1068, hw⟩ := hw
              obtain ⟨x1072, hx, rfl⟩ := map_get hj
              obtain ⟨z1073, hw⟩ := cW_mapA hx hw
              have hw := cW_noEr hw
              have hw : cW (F_quarter_area_c4 (top') (x1072)) _ (fun _ => False) := hw
              unfold F_quarter_area_c4 at hw
              refine ⟨rfl, ?_⟩
              refine tyes_go ?_
              refine ⟨_, rfl, _, _, rfl, rfl, _, _, rfl, rfl, (show (0 : Int) ≤ 12 by decide), _, rfl, rfl, rfl, G1060, _, _, _, rfl, S1058.sG, cW_call hw (fun v1075 hw => ?_) (fun e he => he.elim)⟩
              refine ⟨_, h1059, (app_lenM z1073), ?_⟩
              generalize g1076 : upd H1057 D1028 _ = H1077
              obtain ⟨x1078, h1079⟩ := gen_mut g1076
              have S1080 := S1058.mut1 x1078 (.head _) h1079
              have hw := cW_ok hw
              have h1081 := (x1078 _ _ h1069 (ne_of_none (e1017 _ _ (e1009 _ _ h991)) n1029))
              have h1082 := (x1078 _ _ h1070 (ne_of_none h1021 n1029))
              have w1083 : OwAll G1060 H1077 L997 (vs995) ((acc994 : (List (List Int))).map (oL oI)) := (OwAll.mono (Same.refl _) (keeps_mut x1078 ((there_ne (fun b_ hb_ => (S1023.ow b_ (((fun b hb => (.tail _ (.tail _ (.tail _ (List.mem_append_left _ hb))))) : ∀ b ∈ L997, b ∈ (p1018 :: (p1005 :: (D978 :: (L997 ++ []))))) b_ hb_)).2.1) n1029) : ∀ b ∈ L997, b ≠ D1028)) w1071)
              exact ⟨_, (acc1062 ++ [v1075]), eG1061, S1080, h1081, h1082, (snoc_map h1079), w1083, (same_mut eo1068 x1078 n1029), hw⟩
            intro H1084 hw
            obtain ⟨G1087, acc1089, eG1088, S1085, h1096, h1097, h1086, w1098, eo1095, hw⟩ := hw
            have hw := hK1027 _ (cW_mapA0 (by rw [List.length_map]) hw)
            have fr1099 := S1023.free n1029
            refine ⟨_, h1096, (app_len (OwAll.rpA w1098 (encO_L encO_I) S1085.sG) z1001), ?_⟩
            generalize g1100 : upd H1084 D978 _ = H1101
            obtain ⟨x1102, h1103⟩ := gen_mut g1100
            have S1104 := S1085.mut1 x1102 (.tail _ (.head _)) h1103
            have hw := cW_ok hw
            exact ⟨_, (acc994 ++ [acc1089]), _, (L997 ++ (D1028 :: ([] : List Addr))), (Same.trans eG993 eG1088), (S1104.sub (all_cons (.tail _ (.head _)) (all_app (all_app ((fun b hb => (.tail _ (.tail _ (.tail _ (List.mem_append_left _ hb))))) : ∀ b ∈ L997, b ∈ (D1028 :: (D978 :: (p1018 :: (L997 ++ []))))) (all_cons (.head _) all_nil)) all_nil))), h1103, (OwAll.mono (Same.refl _) (keeps_mut x1102 ((all_app nd999 (all_cons (ne_of_none (e1017 _ _ (e1009 _ _ h991)) n1029).symm all_nil)) : ∀ b ∈ (L997 ++ (D1028 :: ([] : List Addr))), b ≠ D978)) (OwAll.snocM w1098 (Ow.ints h1086) ((fun b hb => (nm_cons ((there_ne (fun b_ hb_ => (S1023.ow b_ (((fun b hb => (.tail _ (.tail _ (.tail _ (List.mem_append_left _ hb))))) : ∀ b ∈ L997, b ∈ (p1018 :: (p1005 :: (D978 :: (L997 ++ []))))) b_ hb_)).2.1) n1029) b hb) nm_nil)) : ∀ b ∈ L997, b ∉ (D1028 :: ([] : List Addr))))), ((all_app nb998 (all_cons (none_of_same (Same.trans (Same.trans eo1000 e1009) e1017) n1029) all_nil)) : ∀ b ∈ (L997 ++ (D1028 :: ([] : List Addr))), H958 b = none), ((all_app nd999 (all_cons (ne_of_none (e1017 _ _ (e1009 _ _ h991)) n1029).symm all_nil)) : ∀ b ∈ (L997 ++ (D1028 :: ([] : List Addr))), b ≠ D978), (same_mut (Same.trans (Same.trans (Same.trans eo1000 e1009) e1017) eo1095) x1102 n979), hw⟩
          intro H1105 hw
          obtain ⟨G1108, acc1110, vs1111, L1113, eG1109, S1106, h1107, d1112, nb1114, nd1115, eo1116, hw⟩ := hw
          have hw := hK977 _ (cW_mapA0 (rng_len _ _).symm hw)
          have fr1117 := S970.free n979
          have hw := cW_ok hw
          exact hK0 _ hw _ _ _ _ _ fr1117 ((fun b hb => Sep.h0 S1106 (((fun b hb => (.tail _ (List.mem_append_left _ hb))) : ∀ b ∈ L1113, b ∈ (D978 :: (L1113 ++ []))) b hb) nm_nil) : ∀ b ∈ L1113, H b = none) (nd1115 : ∀ b ∈ L1113, b ≠ D978) S1106.b0 S1106.g0 S1106.sG S1106.gn (S1106.ow _ (.head _)).1 ((fun b hb => (S1106.ow b (((fun b hb => (.tail _ (List.mem_append_left _ hb))) : ∀ b ∈ L1113, b ∈ (D978 :: (L1113 ++ []))) b hb)).1) : ∀ b ∈ L1113, G1108 b = none) h1107 d1112
    · have hw := cW_neg c767 hw
      refine iteF ?_
      refine ⟨(by show 0 ≤ sizeLine; decide), fun p1118 n1119 => ?_⟩
      generalize g1120 : upd H p1118 _ = H1121
      obtain ⟨e1122, h1123⟩ := gen_new n1119 g1120
      have h1124 : H1121 p1118 = some (.lst ([])) := h1123
      have fr1125 := S0.free n1119
      have S1126 := S0.new n1119 e1122 h1124 fr1125
      have d1127 : RpAll G ([]) ((([] : (List (List Int))) : (List (List Int))).map (encL PyData.int)) := RpAll.nil
      refine ⟨_, rfl, _, rfl, _, _, rfl, rfl, (show (0 : Int) ≤ 2 by decide), _, _, rfl, rfl, _, rfl, _, _, rfl, rfl, (show (0 : Int) ≤ 2 by decide), _, _, rfl, rfl, _, rfl, _, _, rfl, rfl, _, rfl, _, _, rfl, rfl, rfl, rfl, G, _, _, _, _, _, _, rfl, S1126.sG, (Rp.hide_nil (rp_mk_list (S1126.bM _ _ h763) (RpAll.mono S1126.bM d764))), cW_call hw (fun v1128 hw H1129 a1131 vs1132 L1133 G1134 n1135 nb1136 nd1137 e1130 eG1138 sG1139 hn1140 ga1141 gL1142 h1143 w1144 => ?_) (fun e he H2 e2 => hE e he H2 (Same.trans S1126.b0 e2))⟩
      have fr1145 := S1126.free n1135
      have S1146 : Sep _ _ _ _ H1129 (a1131 :: (L1133 ++ (p1118 :: []))) := Sep.steptree S1126 e1130 eG1138 sG1139 hn1140 (a1131 :: L1133) (all_cons ⟨n1135, ga1141, some_ne h1143⟩ (fun b hb => ⟨nb1136 b hb, gL1142 b hb, OwAll.there w1144 b hb⟩))
      obtain ⟨K1152, hK1153, hw⟩ := cW_push hw
      refine ⟨_, rfl, ⟨_, (SqL.of h1143)⟩, for_list (K := K) (a := a1131) (xs := vs1132) (fun i σ H' => ∃ (sums_1154 : (List (List Int))) (vs1155 : List V) (u1156 : Option V) (G' : Hp), σ = [some (V.ref a761), some (V.int (x')), some (V.int (y')), some (V.int (width')), some (V.int (height')), some (V.int (top')), some (V.int ((PySem.Builtin.bitAnd (x') (3)))), some (V.int ((PySem.Builtin.bitAnd (y') (3)))), some (V.ref p1118), u1156, none, none, none] ∧ Same G1134 G' ∧ Sep [] H G G' H' (p1118 :: (a1131 :: (L1133 ++ []))) ∧ H' p1118 = some (.lst (vs1155)) ∧ H' a1131 = some (.lst (vs1132)) ∧ RpAll G' (vs1155) ((sums_1154 : (List (List Int))).map (encL PyData.int)) ∧ OwAll G' H' L1133 (vs1132) ((v1128 : (List (List Int))).map (oL oI)) ∧ cW (forS (List.drop i (v1128)) sums_1154 (fun s x => F_quarter_area_b5 (width') ((PySem.Builtin.bitAnd (x') (3))) s x)) K1152 EE) ?_ ?_ ?_ ?_⟩
      · have h1157 := (e1130 _ _ h1124)
        exact ⟨(([] : (List (List Int)))), _, _, _, rfl, (Same.refl _), (S1146.sub (all_cons (.tail _ (List.mem_append_right _ (.head _))) (all_cons (.head _) (all_app ((fun b hb => (.tail _ (List.mem_append_left _ hb))) : ∀ b ∈ L1133, b ∈ (a1131 :: (L1133 ++ (p1118 :: [])))) all_nil)))), h1157, h1143, (RpAll.mono eG1138 d1127), w1144, hw⟩
      · intro i σ H1158 _ hw
        obtain ⟨sums_1154, vs1155, u1156, G1164, rfl, eG1165, S1159, h1160, h1161, d1162, w1163, hw⟩ := hw
        exact (SqL.of h1161)
      · intro i x σ H1166 hj hw
        obtain ⟨sums_1154, vs1155, u1156, G1172, rfl, eG1173, S1167, h1168, h1169, d1170, w1171, hw⟩ := hw
        obtain ⟨x1174, L1175, hx, w1176, hs1177⟩ := OwAll.turn w1171 hj
        obtain ⟨b1178, rfl, rfl, h1179⟩ := Ow.toInts w1176
        have hv1180 := hj
        have hx1181 := hx
        have hw := cW_forS hx hw
        have hw : cW (F_quarter_area_b5 (width') ((PySem.Builtin.bitAnd (x') (3))) (sums_1154) (x1174)) _ EE := hw
        unfold F_quarter_area_b5 at hw
        obtain ⟨K1183, hK1184, hw⟩ := cW_name hw
        obtain ⟨g1186, hw⟩ := cW_grd hw
        obtain ⟨K1190, hK1191, hw⟩ := cW_push hw
        refine ⟨_, rfl, (.inl ⟨rfl, _, SqL.of h1168⟩), _, rfl, _, _, _, _, rfl, rfl, (T.ts_WEIGHTS _), (atI_map (xs := ([AD.t_WEIGHTS_0, AD.t_WEIGHTS_1, AD.t_WEIGHTS_2, AD.t_WEIGHTS_3] : List Addr)) (by show -(4 : Int) ≤ _ ∧ _ < (4 : Int); exact ⟨by have := g1186.1; omega, g1186.2⟩)), _, rfl, (by decide), (by decide), fun D1192 n1193 => lc_range (lo := 0) (n := Int.toNat (6)) (fun i H' => ∃ (G' : Hp) (acc1195 : (List (List Int))) (vs1196 : List V), Same G1172 G' ∧ Sep [] H G G' H' (D1192 :: (a1131 :: (p1118 :: (L1133 ++ [])))) ∧ H' a1131 = some (.lst (vs1132)) ∧ H' p1118 = some (.lst (vs1155)) ∧ H' D1192 = some (.lst vs1196) ∧ OwAll G' H' L1133 (vs1132) ((v1128 : (List (List Int))).map (oL oI)) ∧ RpAll G' vs1196 ((acc1195 : (List (List Int))).map (encL PyData.int)) ∧ Same H1166 H' ∧ cW (mapA (List.drop i (rng (0) (Int.toNat (6)))) acc1195 (fun x => noEr (F_quarter_area_c6 (width') (x1174) x))) K1190 EE) ?_ ?_ ?_⟩
        · generalize g1197 : upd H1166 D1192 _ = H1198
          obtain ⟨e1199, h1200⟩ := gen_new n1193 g1197
          have fr1201 := S1167.free n1193
          have S1202 := S1167.new n1193 e1199 h1200 fr1201
          have h1203 := (e1199 _ _ h1169)
          have h1204 := (e1199 _ _ h1168)
          have w1205 : OwAll G1172 H1198 L1133 (vs1132) ((v1128 : (List (List Int))).map (oL oI)) := (OwAll.mono (Same.refl _) (keeps_same e1199) w1171)
          exact ⟨_, [], [], Same.refl _, (S1202.sub (all_cons (.head _) (all_cons (.tail _ (.tail _ (.head _))) (all_cons (.tail _ (.head _)) (all_app ((fun b hb => (.tail _ (.tail _ (.tail _ (List.mem_append_left _ hb))))) : ∀ b ∈ L1133, b ∈ (D1192 :: (p1118 :: (a1131 :: (L1133 ++ []))))) all_nil))))), h1203, h1204, h1200, w1205, RpAll.nil, e1199, hw⟩
        · intro i H1206 hi hw
          obtain ⟨G1209, acc1211, vs1212, eG1210, S1207, h1218, h1219, h1208, w1220, d1213, eo1217, hw⟩ := hw
          obtain ⟨z1221, hw⟩ := cW_mapA (rng_get hi) hw
          generalize (0 + (i : Int)) = x1222 at hw ⊢
          have hw := cW_noEr hw
          have hw : cW (F_quarter_area_c6 (width') (x1174) (x1222)) _ (fun _ => False) := hw
          unfold F_quarter_area_c6 at hw
          refine ⟨rfl, ?_⟩
          refine tyes_go ?_
          have h1224 := (eo1217 _ _ h1179)
          refine ⟨_, rfl, _, rfl, _, rfl, _, rfl, _, rfl, _, _, rfl, rfl, _, rfl, _, _, rfl, (SqL.of h1224), fun p1225 n1226 => ?_⟩
          generalize g1227 : upd H1206 p1225 _ = H1228
          obtain ⟨e1229, h1230⟩ := gen_new n1226 g1227
          have h1231 : H1228 p1225 = some (.lst ((cutL (x1174) (some (x1222)) (some ((x1222 + width'))) : (List Int)).map V.int)) := cut_map h1230
          have fr1232 := S1207.free n1226
          have S1233 := S1207.new n1226 e1229 h1231 fr1232
          obtain ⟨G1234, eG1235, hg1236, S1237⟩ := Sep.freeze (O' := (D1192 :: (a1131 :: (p1118 :: (L1133 ++ []))))) S1233 (.head _) h1231 fr1232 ((all_cons ⟨(.tail _ (.head _)), (ne_of_none h1208 n1226)⟩ (all_cons ⟨(.tail _ (.tail _ (.head _))), (ne_of_none h1218 n1226)⟩ (all_cons ⟨(.tail _ (.tail _ (.tail _ (.head _)))), (ne_of_none h1219 n1226)⟩ (all_app (fun b hb => ⟨((fun b hb => (.tail _ (.tail _ (.tail _ (.tail _ (List.mem_append_left _ hb)))))) : ∀ b ∈ L1133, b ∈ (p1225 :: (D1192 :: (a1131 :: (p1118 :: (L1133 ++ [])))))) b hb, (there_ne (fun b_ hb_ => (S1207.ow b_ (((fun b hb => (.tail _ (.tail _ (.tail _ (List.mem_append_left _ hb))))) : ∀ b ∈ L1133, b ∈ (D1192 :: (a1131 :: (p1118 :: (L1133 ++ []))))) b_ hb_)).2.1) n1226) b hb⟩) all_nil)))))
          have h1238 := (e1229 _ _ h1208)
          refine ⟨_, h1238, (app_len (RpAll.mono eG1235 d1213) z1221), ?_⟩
          generalize g1239 : upd H1228 D1192 _ = H1240
          obtain ⟨x1241, h1242⟩ := gen_mut g1239
          have S1243 := S1237.mut1 x1241 (.head _) h1242
          have hw := cW_ok hw
          have h1244 := (x1241 _ _ (e1229 _ _ h1218) (ne_of_none h1169 n1193))
          have h1245 := (x1241 _ _ (e1229 _ _ h1219) (ne_of_none h1168 n1193))
          have w1246 : OwAll G1234 H1240 L1133 (vs1132) ((v1128 : (List (List Int))).map (oL oI)) := (OwAll.mono eG1235 keeps_refl (OwAll.mono (Same.refl _) (keeps_mut x1241 ((there_ne (fun b_ hb_ => (S1167.ow b_ (((fun b hb => (.tail _ (.tail _ (List.mem_append_left _ hb)))) : ∀ b ∈ L1133, b ∈ (p1118 :: (a1131 :: (L1133 ++ [])))) b_ hb_)).2.1) n1193) : ∀ b ∈ L1133, b ≠ D1192)) (OwAll.mono (Same.refl _) (keeps_same e1229) w1220)))
          exact ⟨_, (acc1211 ++ [cutL (x1174) (some (x1222)) (some ((x1222 + width')))]), _, (Same.trans eG1210 eG1235), S1243, h1244, h1245, h1242, w1246, (app_map (RpAll.mono eG1235 d1213) (RpAll.one (rp_mk_ints hg1236))), (same_mut (Same.trans eo1217 e1229) x1241 n1193), hw⟩
        intro H1247 hw
        obtain ⟨G1250, acc1252, vs1253, eG1251, S1248, h1259, h1260, h1249, w1261, d1254, eo1258, hw⟩ := hw
        have hw := hK1191 _ (cW_mapA0 (rng_len _ _).symm hw)
        have fr1262 := S1167.free n1193
        refine ⟨rfl, rfl, G1250, _, _, _, _, rfl, S1248.sG, (T.tt_WEIGHTS _ g1186.1 g1186.2), (Rp.hide_nil (rp_mk_list h1249 (RpAll.mono S1248.sG d1254))), cW_call hw (fun v1263 hw p1266 H1264 n1267 e1265 h1268 => ?_) (fun e he H2 e2 => hE e he H2 (Same.trans S1248.b0 e2))⟩
        have h1269 : H1264 p1266 = some (.lst ((v1263 : (List Int)).map V.int)) := h1268
        have fr1270 := S1248.free n1267
        have S1271 := S1248.new n1267 e1265 h1269 fr1270
        obtain ⟨g1272, hw⟩ := cW_grd hw
        have h1273 := (e1265 _ _ h1260)
        obtain ⟨G1274, eG1275, hg1276, S1277⟩ := Sep.freeze (O' := (D1192 :: (a1131 :: (p1118 :: (L1133 ++ []))))) S1271 (.head _) h1269 fr1270 ((all_cons ⟨(.tail _ (.head _)), (ne_of_none h1249 n1267)⟩ (all_cons ⟨(.tail _ (.tail _ (.head _))), (ne_of_none h1259 n1267)⟩ (all_cons ⟨(.tail _ (.tail _ (.tail _ (.head _)))), (ne_of_none h1260 n1267)⟩ (all_app (fun b hb => ⟨((fun b hb => (.tail _ (.tail _ (.tail _ (.tail _ (List.mem_append_left _ hb)))))) : ∀ b ∈ L1133, b ∈ (p1266 :: (D1192 :: (a1131 :: (p1118 :: (L1133 ++ [])))))) b hb, (there_ne (fun b_ hb_ => (S1248.ow b_ (((fun b hb => (.tail _ (.tail _ (.tail _ (List.mem_append_left _ hb))))) : ∀ b ∈ L1133, b ∈ (D1192 :: (a1131 :: (p1118 :: (L1133 ++ []))))) b_ hb_)).2.1) n1267) b hb⟩) all_nil)))))
        refine ⟨_, _, _, rfl, rfl, h1273, (app_len (RpAll.mono eG1275 (RpAll.mono eG1251 d1170)) g1272), ?_⟩
        generalize g1278 : upd H1264 p1118 _ = H1279
        obtain ⟨x1280, h1281⟩ := gen_mut g1278
        have h1282 : H1279 p1118 = some (.lst (vs1155 ++ [V.ref p1266])) := h1281
        have S1283 := S1277.mut1 x1280 (.tail _ (.tail _ (.head _))) h1282
        have d1284 : RpAll G1274 (vs1155 ++ [V.ref p1266]) (((sums_1154) ++ [v1263] : (List (List Int))).map (encL PyData.int)) := app_map (RpAll.mono eG1275 (RpAll.mono eG1251 d1170)) (RpAll.one (rp_mk_ints hg1276))
        have hw := cW_bnd hw
        have hw := cW_ok hw
        have hw := hK1184 _ hw
        have h1286 := (x1280 _ _ (e1265 _ _ h1259) (ne_of_none h1124 n1135).symm)
        have w1287 : OwAll G1274 H1279 L1133 (vs1132) ((v1128 : (List (List Int))).map (oL oI)) := (OwAll.mono eG1275 keeps_refl (OwAll.mono (Same.refl _) (keeps_mut x1280 ((new_ne2 nb1136 (S1126.ow _ (.head _)).2.1) : ∀ b ∈ L1133, b ≠ p1118)) (OwAll.mono (Same.refl _) (keeps_same e1265) w1261)))
        exact ⟨((sums_1154) ++ [v1263]), _, _, _, rfl, (Same.trans (Same.trans eG1173 eG1251) eG1275), (S1283.sub (all_cons (.tail _ (.tail _ (.head _))) (all_cons (.tail _ (.head _)) (all_app ((fun b hb => (.tail _ (.tail _ (.tail _ (List.mem_append_left _ hb))))) : ∀ b ∈ L1133, b ∈ (D1192 :: (a1131 :: (p1118 :: (L1133 ++ []))))) all_nil)))), h1282, h1286, d1284, w1287, hw⟩
      · intro σ H1288 hw
        obtain ⟨sums_1154, vs1155, u1156, G1294, rfl, eG1295, S1289, h1290, h1291, d1292, w1293, hw⟩ := hw
        have hw := hK1153 _ (cW_forS0 (by rw [(OwAll.rpA w1293 (encO_L encO_I) S1289.sG).len, List.length_map]) hw)
        have hw : cW (F_quarter_area_r5 (height') (top') ((PySem.Builtin.bitAnd (y') (3))) (sums_1154)) _ EE := hw
        unfold F_quarter_area_r5 at hw
        obtain ⟨G1297, eG1298, hg1299, S1300⟩ := Sep.freeze (O' := (a1131 :: (L1133 ++ []))) S1289 (.head _) h1290 fr1125 ((all_cons ⟨(.tail _ (.head _)), (ne_of_none h1124 n1135).symm⟩ (all_app (fun b hb => ⟨((fun b hb => (.tail _ (.tail _ (List.mem_append_left _ hb)))) : ∀ b ∈ L1133, b ∈ (p1118 :: (a1131 :: (L1133 ++ [])))) b hb, (new_ne2 nb1136 (S1126.ow _ (.head _)).2.1) b hb⟩) all_nil)))
        obtain ⟨g1301, hw⟩ := cW_grd hw
        obtain ⟨K1306, hK1307, hw⟩ := cW_push hw
        refine ⟨_, rfl, _, rfl, g1301.1, g1301.2, fun D1308 n1309 => lc_range (lo := 0) (n := Int.toNat (height')) (fun i H' => ∃ (G' : Hp) (acc1311 : (List (List Int))) (vs1312 : List V) (L1310 : List Addr), Same G1297 G' ∧ Sep [] H G G' H' (D1308 :: (L1310 ++ [])) ∧ H' D1308 = some (.lst vs1312) ∧ OwAll G' H' L1310 vs1312 ((acc1311 : (List (List Int))).map (oL oI)) ∧ (∀ b ∈ L1310, H1288 b = none) ∧ (∀ b ∈ L1310, b ≠ D1308) ∧ Same H1288 H' ∧ cW (mapA (List.drop i (rng (0) (Int.toNat (height')))) acc1311 (fun x => noEr (F_quarter_area_c7 (top') ((PySem.Builtin.bitAnd (y') (3))) (sums_1154) x))) K1306 EE) ?_ ?_ ?_⟩
        · generalize g1313 : upd H1288 D1308 _ = H1314
          obtain ⟨e1315, h1316⟩ := gen_new n1309 g1313
          have fr1317 := S1300.free n1309
          have S1318 := S1300.new n1309 e1315 h1316 fr1317
          exact ⟨_, [], [], [], Same.refl _, (S1318.sub (all_cons (.head _) (all_app (L := []) all_nil all_nil))), h1316, OwAll.nil, all_nil, all_nil, e1315, hw⟩
        · intro i H1319 hi hw
          obtain ⟨G1322, acc1324, vs1325, L1327, eG1323, S1320, h1321, d1326, nb1328, nd1329, eo1330, hw⟩ := hw
          obtain ⟨z1331, hw⟩ := cW_mapA (rng_get hi) hw
          generalize (0 + (i : Int)) = x1332 at hw ⊢
          have hw := cW_noEr hw
          have hw : cW (F_quarter_area_c7 (top') ((PySem.Builtin.bitAnd (y') (3))) (sums_1154) (x1332)) _ (fun _ => False) := hw
          unfold F_quarter_area_c7 at hw
          refine ⟨rfl, ?_⟩
          refine tyes_go ?_
          obtain ⟨g1334, hw⟩ := cW_grd hw
          refine ⟨_, rfl, _, _, _, _, rfl, rfl, (T.ts_WEIGHTS _), (atI_map (xs := ([AD.t_WEIGHTS_0, AD.t_WEIGHTS_1, AD.t_WEIGHTS_2, AD.t_WEIGHTS_3] : List Addr)) (by show -(4 : Int) ≤ _ ∧ _ < (4 : Int); exact ⟨by have := g1334.1; omega, g1334.2⟩)), _, rfl, _, rfl, _, rfl, _, rfl, _, _, rfl, rfl, _, rfl, _, _, rfl, (SqL.of (S1320.sG _ _ (eG1323 _ _ hg1299))), fun p1335 n1336 => ?_⟩
          generalize g1337 : upd H1319 p1335 _ = H1338
          obtain ⟨e1339, h1340⟩ := gen_new n1336 g1337
          have h1341 : H1338 p1335 = some (.lst (cutV (vs1155) (some (x1332)) (some ((x1332 + 6))))) := h1340
          have fr1342 := S1320.free n1336
          have S1343 := S1320.new n1336 e1339 h1341 fr1342
          have d1344 : RpAll G1322 (cutV (vs1155) (some (x1332)) (some ((x1332 + 6)))) ((cutL (sums_1154) (some (x1332)) (some ((x1332 + 6))) : (List (List Int))).map (encL PyData.int)) := cut_all (some (x1332)) (some ((x1332 + 6))) (RpAll.mono eG1323 (RpAll.mono eG1298 d1292))
          refine ⟨rfl, rfl, G1322, _, _, _, _, rfl, S1343.sG, (T.tt_WEIGHTS _ g1334.1 g1334.2), (Rp.hide_nil (rp_mk_list h1341 (RpAll.mono S1343.sG d1344))), cW_call hw (fun v1345 hw p1348 H1346 n1349 e1347 h1350 => ?_) (fun e he => he.elim)⟩
          have h1351 : H1346 p1348 = some (.lst ((v1345 : (List Int)).map V.int)) := h1350
          have fr1352 := S1343.free n1349
          have S1353 := S1343.new n1349 e1347 h1351 fr1352
          obtain ⟨K1356, hK1357, hw⟩ := cW_push hw
          refine ⟨_, rfl, ⟨_, (SqL.of h1351)⟩, fun D1358 n1359 => lc_list (K := K) (a := p1348) (xs := (v1345 : (List Int)).map V.int) (fun i2 H' => ∃ (G' : Hp) (acc1361 : (List Int)), Same G1322 G' ∧ Sep [] H G G' H' (D1358 :: (D1308 :: (p1348 :: (L1327 ++ [])))) ∧ H' D1308 = some (.lst (vs1325)) ∧ H' p1348 = some (.lst ((v1345 : (List Int)).map V.int)) ∧ H' D1358 = some (.lst ((acc1361 : (List Int)).map V.int)) ∧ OwAll G' H' L1327 (vs1325) ((acc1324 : (List (List Int))).map (oL oI)) ∧ Same H1346 H' ∧ cW (mapA (List.drop i2 (v1345)) acc1361 (fun x => noEr (F_quarter_area_c8 (top') x))) K1356 (fun _ => False)) ?_ ?_ ?_ ?_⟩
          · generalize g1363 : upd H1346 D1358 _ = H1364
            obtain ⟨e1365, h1366⟩ := gen_new n1359 g1363
            have fr1367 := S1353.free n1359
            have S1368 := S1353.new n1359 e1365 h1366 fr1367
            have h1369 := (e1365 _ _ (e1347 _ _ (e1339 _ _ h1321)))
            have h1370 := (e1365 _ _ h1351)
            have w1371 : OwAll G1322 H1364 L1327 (vs1325) ((acc1324 : (List (List Int))).map (oL oI)) := (OwAll.mono (Same.refl _) (keeps_same e1365) (OwAll.mono (Same.refl _) (keeps_same e1347) (OwAll.mono (Same.refl _) (keeps_same e1339) d1326)))
            exact ⟨_, [], Same.refl _, (S1368.sub (all_cons (.head _) (all_cons (.tail _ (.tail _ (.tail _ (.head _)))) (all_cons (.tail _ (.head _)) (all_app ((fun b hb => (.tail _ (.tail _ (.tail _ (.tail _ (List.mem_append_left _ hb)))))) : ∀ b ∈ L1327, b ∈ (D1358 :: (p1348 :: (p1335 :: (D1308 :: (L1327 ++ [])))))) all_nil))))), h1369, h1370, h1366, w1371, e1365, hw⟩
          · intro i2 H1372 _ hw
            obtain ⟨G1375, acc1377, eG1376, S1373, h1384, h1385, h1374, w1386, eo1383, hw⟩ := hw
            exact (SqL.of h1385)
          · intro i2 x H1387 hj hw
            obtain ⟨G1390, acc1392, eG1391, S1388, h1399, h1400, h1389, w1401, eo1398, hw⟩ := hw
            obtain ⟨x1402, hx, rfl⟩ := map_get hj
            obtain ⟨z1403, hw⟩ := cW_mapA hx hw
            have hw := cW_noEr hw
            have hw : cW (F_quarter_area_c8 (top') (x1402)) _ (fun _ => False) := hw
            unfold F_quarter_area_c8 at hw
            refine ⟨rfl, ?_⟩
            refine tyes_go ?_
            refine ⟨_, rfl, _, _, rfl, rfl, _, _, rfl, rfl, (show (0 : Int) ≤ 12 by decide), _, rfl, rfl, rfl, G1390, _, _, _, rfl, S1388.sG, cW_call hw (fun v1405 hw => ?_) (fun e he => he.elim)⟩
            refine ⟨_, h1389, (app_lenM z1403), ?_⟩
            generalize g1406 : upd H1387 D1358 _ = H1407
            obtain ⟨x1408, h1409⟩ := gen_mut g1406
            have S1410 := S1388.mut1 x1408 (.head _) h1409
            have hw := cW_ok hw
            have h1411 := (x1408 _ _ h1399 (ne_of_none (e1347 _ _ (e1339 _ _ h1321)) n1359))
            have h1412 := (x1408 _ _ h1400 (ne_of_none h1351 n1359))
            have w1413 : OwAll G1390 H1407 L1327 (vs1325) ((acc1324 : (List (List Int))).map (oL oI)) := (OwAll.mono (Same.refl _) (keeps_mut x1408 ((there_ne (fun b_ hb_ => (S1353.ow b_ (((fun b hb => (.tail _ (.tail _ (.tail _ (List.mem_append_left _ hb))))) : ∀ b ∈ L1327, b ∈ (p1348 :: (p1335 :: (D1308 :: (L1327 ++ []))))) b_ hb_)).2.1) n1359) : ∀ b ∈ L1327, b ≠ D1358)) w1401)
            exact ⟨_, (acc1392 ++ [v1405]), eG1391, S1410, h1411, h1412, (snoc_map h1409), w1413, (same_mut eo1398 x1408 n1359), hw⟩
          intro H1414 hw
          obtain ⟨G1417, acc1419, eG1418, S1415, h1426, h1427, h1416, w1428, eo1425, hw⟩ := hw
          have hw := hK1357 _ (cW_mapA0 (by rw [List.length_map]) hw)
          have fr1429 := S1353.free n1359
          refine ⟨_, h1426, (app_len (OwAll.rpA w1428 (encO_L encO_I) S1415.sG) z1331), ?_⟩
          generalize g1430 : upd H1414 D1308 _ = H1431
          obtain ⟨x1432, h1433⟩ := gen_mut g1430
          have S1434 := S1415.mut1 x1432 (.tail _ (.head _)) h1433
          have hw := cW_ok hw
          exact ⟨_, (acc1324 ++ [acc1419]), _, (L1327 ++ (D1358 :: ([] : List Addr))), (Same.trans eG1323 eG1418), (S1434.sub (all_cons (.tail _ (.head _)) (all_app (all_app ((fun b hb => (.tail _ (.tail _ (.tail _ (List.mem_append_left _ hb))))) : ∀ b ∈ L1327, b ∈ (D1358 :: (D1308 :: (p1348 :: (L1327 ++ []))))) (all_cons (.head _) all_nil)) all_nil))), h1433, (OwAll.mono (Same.refl _) (keeps_mut x1432 ((all_app nd1329 (all_cons (ne_of_none (e1347 _ _ (e1339 _ _ h1321)) n1359).symm all_nil)) : ∀ b ∈ (L1327 ++ (D1358 :: ([] : List Addr))), b ≠ D1308)) (OwAll.snocM w1428 (Ow.ints h1416) ((fun b hb => (nm_cons ((there_ne (fun b_ hb_ => (S1353.ow b_ (((fun b hb => (.tail _ (.tail _ (.tail _ (List.mem_append_left _ hb))))) : ∀ b ∈ L1327, b ∈ (p1348 :: (p1335 :: (D1308 :: (L1327 ++ []))))) b_ hb_)).2.1) n1359) b hb) nm_nil)) : ∀ b ∈ L1327, b ∉ (D1358 :: ([] : List Addr))))), ((all_app nb1328 (all_cons (none_of_same (Same.trans (Same.trans eo1330 e1339) e1347) n1359) all_nil)) : ∀ b ∈ (L1327 ++ (D1358 :: ([] : List Addr))), H1288 b = none), ((all_app nd1329 (all_cons (ne_of_none (e1347 _ _ (e1339 _ _ h1321)) n1359).symm all_nil)) : ∀ b ∈ (L1327 ++ (D1358 :: ([] : List Addr))), b ≠ D1308), (same_mut (Same.trans (Same.trans (Same.trans eo1330 e1339) e1347) eo1425) x1432 n1309), hw⟩
        intro H1435 hw
        obtain ⟨G1438, acc1440, vs1441, L1443, eG1439, S1436, h1437, d1442, nb1444, nd1445, eo1446, hw⟩ := hw
        have hw := hK1307 _ (cW_mapA0 (rng_len _ _).symm hw)
        have fr1447 := S1300.free n1309
        have hw := cW_ok hw
        exact hK0 _ hw _ _ _ _ _ fr1447 ((fun b hb => Sep.h0 S1436 (((fun b hb => (.tail _ (List.mem_append_left _ hb))) : ∀ b ∈ L1443, b ∈ (D1308 :: (L1443 ++ []))) b hb) nm_nil) : ∀ b ∈ L1443, H b = none) (nd1445 : ∀ b ∈ L1443, b ≠ D1308) S1436.b0 S1436.g0 S1436.sG S1436.gn (S1436.ow _ (.head _)).1 ((fun b hb => (S1436.ow b (((fun b hb => (.tail _ (List.mem_append_left _ hb))) : ∀ b ∈ L1443, b ∈ (D1308 :: (L1443 ++ []))) b hb)).1) : ∀ b ∈ L1443, G1438 b = none) h1437 d1442

abbrev N_eighth_area : List Str := ["plane", "x", "y", "width", "height", "top", "f", "g", "sums", "row", "a", "b", "upper", "lower", "c"]
theorem sc_eighth_area : FnScope N_eighth_area ["plane", "x", "y", "width", "height", "top"] (defScope s_eighth_area) := ⟨rfl, rfl, rfl, by decide +kernel, rfl, by decide +kernel, by decide +kernel⟩
theorem ok_eighth_area (D : DefX K mg "eighth_area" s_eighth_area ["plane", "x", "y", "width", "height", "top"] pats_eighth_area) (T : Txt K mg AD) (c__samples : CalX P w K mg base 2 "_samples" (sp__samples K AD) pats__samples) : CalX P w K mg base 3 "eighth_area" (sp_eighth_area K AD) pats_eighth_area := by
  refine D.ok sc_eighth_area (fun vs H Q E h => ?_) (fun f cdv A_ outer s H vs Q E hr h => ?_)
  · obtain ⟨G, v_plane, plane', x', y', width', height', top', rfl, _⟩ := h
    rfl
  · obtain ⟨G, v_plane, plane', x', y', width', height', top', rfl, sG, r_plane, hw⟩ := h
    refine ⟨_, (pss_cons (ps_set (i := 6) sc_eighth_area.nd rfl (Or.inr rfl) (pe_op op_and (pv 1) pe_int))
      (pss_cons (ps_set (i := 7) sc_eighth_area.nd rfl (Or.inr rfl) (pe_op op_and (pv 2) pe_int))
      (pss_cons (ps_set (i := 8) sc_eighth_area.nd rfl (Or.inl rfl) (pe_lst pa_nil))
      (pss_cons (ps_for (passes_of rfl) rfl (pi_listK (K := K) (vx_callX c__samples pat__samples_0 (.head _) hr (by decide) (takes_of rfl rfl rfl rfl) rfl (pa_cons (pv 0) (pa_cons (pe_op op_shr (pv 1) pe_int) (pa_cons (pe_op op_shr (pv 2) pe_int) (pa_cons (pe_op op_add (pv 3) pe_int) (pa_cons (pe_op op_add (pv 4) pe_int) pa_nil))))) pk_nil)) (pg_name (i := 9) sc_eighth_area.nd rfl (Or.inl rfl)) (pss_one (ps_expr (pe_bm PySem.F.plainAttrs_list PySem.F.slot_list_append PySem.F.type_list_append mt_append (pv 8) (pa_cons (pe_lc (own := [("a", 10), ("b", 11)]) (g := gTup K 2 (gCons (gName 10) (gCons (gName 11) gNil))) (by rfl) sc_eighth_area.nd (pi_zipK (K := K) rfl T.b_zip (pa_cons (pv 9) (pa_cons (pe_slice (sl_listK (K := K)) (pv 9) (po_some pe_int) po_none) pa_nil))) (blkOk_by (own := [("a", 10), ("b", 11)]) (N := N_eighth_area) (sc := defScope s_eighth_area) (by decide +kernel)) (fun _ _ _ _ _ => (pg_tupK (K := K) (n := 2) (pgs_cons (pg_name (i := 10) sc_eighth_area.nd rfl (Or.inl rfl)) (pgs_cons (pg_name (i := 11) sc_eighth_area.nd rfl (Or.inl rfl)) pgs_nil)))) (fun _ _ _ _ _ => pts_nil) (fun _ _ _ _ _ => (pe_op op_add (pe_op op_mul (pe_op op_sub pe_int (pv 6)) (pv 10)) (pe_op op_mul (pv 6) (pv 11))))) pa_nil)))))
      (pss_one (ps_ret (pe_lc (own := [("upper", 12), ("lower", 13)]) (g := gTup K 2 (gCons (gName 12) (gCons (gName 13) gNil))) (by rfl) sc_eighth_area.nd (pi_zipK (K := K) rfl T.b_zip (pa_cons (pv 8) (pa_cons (pe_slice (sl_listK (K := K)) (pv 8) (po_some pe_int) po_none) pa_nil))) (blkOk_by (own := [("upper", 12), ("lower", 13)]) (N := N_eighth_area) (sc := defScope s_eighth_area) (by decide +kernel)) (fun _ _ _ _ _ => (pg_tupK (K := K) (n := 2) (pgs_cons (pg_name (i := 12) sc_eighth_area.nd rfl (Or.inl rfl)) (pgs_cons (pg_name (i := 13) sc_eighth_area.nd rfl (Or.inl rfl)) pgs_nil)))) (fun _ _ _ _ _ => pts_nil) (fun _ _ _ _ _ => (pe_lc (own := [("a", 10), ("c", 14)]) (g := gTup K 2 (gCons (gName 10) (gCons (gName 14) gNil))) (by rfl) sc_eighth_area.nd (pi_zipK (K := K) rfl T.b_zip (pa_cons (pv 12) (pa_cons (pv 13) pa_nil))) (blk_relabel (blkOk_by (own := [("a", 10), ("c", 14)]) (N := N_eighth_area) (by decide +kernel))) (fun _ _ _ _ _ => (pg_tupK (K := K) (n := 2) (pgs_cons (pg_name (i := 10) sc_eighth_area.nd rfl (Or.inl rfl)) (pgs_cons (pg_name (i := 14) sc_eighth_area.nd rfl (Or.inl rfl)) pgs_nil)))) (fun _ _ _ _ _ => pts_nil) (fun _ _ _ _ _ => (pe_op op_shr (pe_op op_add (pe_op op_add (pe_op op_mul (pe_op op_sub pe_int (pv 7)) (pv 10)) (pe_op op_mul (pv 7) (pv 14))) pe_int) pe_int))))))))))), ?_⟩
    obtain ⟨KK, EE, hK0, hE, hw⟩ := cW_gen hw
    have S0 := Sep.startG sG
    unfold F_eighth_area at hw
    obtain ⟨a1448, vs1449, rfl, h1450, d1451⟩ := rp_list r_plane
    refine ⟨_, rfl, _, _, rfl, rfl, ?_⟩
    have hw := cW_bnd hw
    refine ⟨_, rfl, _, _, rfl, rfl, ?_⟩
    have hw := cW_bnd hw
    refine ⟨(by show 0 ≤ sizeLine; decide), fun p1454 n1455 => ?_⟩
    generalize g1456 : upd H p1454 _ = H1457
    obtain ⟨e1458, h1459⟩ := gen_new n1455 g1456
    have h1460 : H1457 p1454 = some (.lst ([])) := h1459
    have fr1461 := S0.free n1455
    have S1462 := S0.new n1455 e1458 h1460 fr1461
    have d1463 : RpAll G ([]) ((([] : (List (List Int))) : (List (List Int))).map (encL PyData.int)) := RpAll.nil
    refine ⟨_, rfl, _, rfl, _, _, rfl, rfl, (show (0 : Int) ≤ 3 by decide), _, rfl, _, _, rfl, rfl, (show (0 : Int) ≤ 3 by decide), _, rfl, _, _, rfl, rfl, _, rfl, _, _, rfl, rfl, rfl, rfl, G, _, _, _, _, _, _, rfl, S1462.sG, (Rp.hide_nil (rp_mk_list (S1462.bM _ _ h1450) (RpAll.mono S1462.bM d1451))), cW_call hw (fun v1464 hw H1465 a1467 vs1468 L1469 G1470 n1471 nb1472 nd1473 e1466 eG1474 sG1475 hn1476 ga1477 gL1478 h1479 w1480 => ?_) (fun e he H2 e2 => hE e he H2 (Same.trans S1462.b0 e2))⟩
    have fr1481 := S1462.free n1471
    have S1482 : Sep _ _ _ _ H1465 (a1467 :: (L1469 ++ (p1454 :: []))) := Sep.steptree S1462 e1466 eG1474 sG1475 hn1476 (a1467 :: L1469) (all_cons ⟨n1471, ga1477, some_ne h1479⟩ (fun b hb => ⟨nb1472 b hb, gL1478 b hb, OwAll.there w1480 b hb⟩))
    obtain ⟨K1485, hK1486, hw⟩ := cW_push hw
    refine ⟨_, rfl, ⟨_, (SqL.of h1479)⟩, for_list (K := K) (a := a1467) (xs := vs1468) (fun i σ H' => ∃ (sums_1487 : (List (List Int))) (vs1488 : List V) (u1489 : Option V) (G' : Hp), σ = [some (V.ref a1448), some (V.int (x')), some (V.int (y')), some (V.int (width')), some (V.int (height')), some (V.int (top')), some (V.int ((PySem.Builtin.bitAnd (x') (7)))), some (V.int ((PySem.Builtin.bitAnd (y') (7)))), some (V.ref p1454), u1489, none, none, none, none, none] ∧ Same G1470 G' ∧ Sep [] H G G' H' (p1454 :: (a1467 :: (L1469 ++ []))) ∧ H' p1454 = some (.lst (vs1488)) ∧ H' a1467 = some (.lst (vs1468)) ∧ RpAll G' (vs1488) ((sums_1487 : (List (List Int))).map (encL PyData.int)) ∧ OwAll G' H' L1469 (vs1468) ((v1464 : (List (List Int))).map (oL oI)) ∧ cW (forS (List.drop i (v1464)) sums_1487 (fun s x => F_eighth_area_b1 ((PySem.Builtin.bitAnd (x') (7))) s x)) K1485 EE) ?_ ?_ ?_ ?_⟩
    · have h1490 := (e1466 _ _ h1460)
      exact ⟨(([] : (List (List Int)))), _, _, _, rfl, (Same.refl _), (S1482.sub (all_cons (.tail _ (List.mem_append_right _ (.head _))) (all_cons (.head _) (all_app ((fun b hb => (.tail _ (List.mem_append_left _ hb))) : ∀ b ∈ L1469, b ∈ (a1467 :: (L1469 ++ (p1454 :: [])))) all_nil)))), h1490, h1479, (RpAll.mono eG1474 d1463), w1480, hw⟩
    · intro i σ H1491 _ hw
      obtain ⟨sums_1487, vs1488, u1489, G1497, rfl, eG1498, S1492, h1493, h1494, d1495, w1496, hw⟩ := hw
      exact (SqL.of h1494)
    · intro i x σ H1499 hj hw
      obtain ⟨sums_1487, vs1488, u1489, G1505, rfl, eG1506, S1500, h1501, h1502, d1503, w1504, hw⟩ := hw
      obtain ⟨x1507, L1508, hx, w1509, hs1510⟩ := OwAll.turn w1504 hj
      obtain ⟨b1511, rfl, rfl, h1512⟩ := Ow.toInts w1509
      have hv1513 := hj
      have hx1514 := hx
      have hw := cW_forS hx hw
      have hw : cW (F_eighth_area_b1 ((PySem.Builtin.bitAnd (x') (7))) (sums_1487) (x1507)) _ EE := hw
      unfold F_eighth_area_b1 at hw
      obtain ⟨K1516, hK1517, hw⟩ := cW_name hw
      refine ⟨_, rfl, (.inl ⟨rfl, _, SqL.of h1501⟩), _, rfl, _, rfl, _, rfl, _, _, rfl, (SqL.of h1512), fun p1519 n1520 => ?_⟩
      generalize g1521 : upd H1499 p1519 _ = H1522
      obtain ⟨e1523, h1524⟩ := gen_new n1520 g1521
      have h1525 : H1522 p1519 = some (.lst ((cutL (x1507) (some (1)) none : (List Int)).map V.int)) := cut_map h1524
      have fr1526 := S1500.free n1520
      have S1527 := S1500.new n1520 e1523 h1525 fr1526
      have h1528 := (e1523 _ _ h1512)
      obtain ⟨K1531, hK1532, hw⟩ := cW_push hw
      refine ⟨_, _, _, _, rfl, .inl ⟨(SqL.of h1528), (SqL.of h1525), fun D1533 n1534 => lc_zipM (K := K) (a := b1511) (b := p1519) (xs := (x1507 : List Int).map V.int) (ys := (cutL (x1507) (some (1)) none : (List Int)).map V.int) (min ((x1507 : (List Int)).length) ((cutL (x1507) (some (1)) none : (List Int)).length)) (zipM_n (by rw [List.length_map]) (by rw [List.length_map])) (fun i H' => ∃ (G' : Hp) (acc1536 : (List Int)), Same G1505 G' ∧ Sep [] H G G' H' (D1533 :: (a1467 :: (p1454 :: (p1519 :: (L1469 ++ []))))) ∧ H' a1467 = some (.lst (vs1468)) ∧ H' p1454 = some (.lst (vs1488)) ∧ H' p1519 = some (.lst ((cutL (x1507) (some (1)) none : (List Int)).map V.int)) ∧ H' D1533 = some (.lst ((acc1536 : (List Int)).map V.int)) ∧ OwAll G' H' L1469 (vs1468) ((v1464 : (List (List Int))).map (oL oI)) ∧ Same H1522 H' ∧ cW (mapA (List.drop i (List.zip (x1507) (cutL (x1507) (some (1)) none))) acc1536 (fun x => noEr (F_eighth_area_c2 ((PySem.Builtin.bitAnd (x') (7))) x))) K1531 EE) ?_ ?_ ?_ ?_⟩⟩
      · generalize g1538 : upd H1522 D1533 _ = H1539
        obtain ⟨e1540, h1541⟩ := gen_new n1534 g1538
        have fr1542 := S1527.free n1534
        have S1543 := S1527.new n1534 e1540 h1541 fr1542
        have h1544 := (e1540 _ _ (e1523 _ _ h1502))
        have h1545 := (e1540 _ _ (e1523 _ _ h1501))
        have h1546 := (e1540 _ _ h1525)
        have w1547 : OwAll G1505 H1539 L1469 (vs1468) ((v1464 : (List (List Int))).map (oL oI)) := (OwAll.mono (Same.refl _) (keeps_same e1540) (OwAll.mono (Same.refl _) (keeps_same e1523) w1504))
        exact ⟨_, [], Same.refl _, (S1543.sub (all_cons (.head _) (all_cons (.tail _ (.tail _ (.tail _ (.head _)))) (all_cons (.tail _ (.tail _ (.head _))) (all_cons (.tail _ (.head _)) (all_app ((fun b hb => (.tail _ (.tail _ (.tail _ (.tail _ (List.mem_append_left _ hb)))))) : ∀ b ∈ L1469, b ∈ (D1533 :: (p1519 :: (p1454 :: (a1467 :: (L1469 ++ [])))))) all_nil)))))), h1544, h1545, h1546, h1541, w1547, e1540, hw⟩
      · intro i H1548 _ hw
        obtain ⟨G1551, acc1553, eG1552, S1549, h1560, h1561, h1562, h1550, w1563, eo1559, hw⟩ := hw
        have h1564 := (eo1559 _ _ h1528)
        exact ⟨(SqL.of h1564), (SqL.of h1562)⟩
      · intro i x y T1567 H1565 hj hj2 n1566 hw
        obtain ⟨G1570, acc1572, eG1571, S1568, h1579, h1580, h1581, h1569, w1582, eo1578, hw⟩ := hw
        obtain ⟨x1583, hx1584, rfl⟩ := map_get hj
        obtain ⟨x1585, hx1586, rfl⟩ := map_get hj2
        generalize g1587 : upd H1565 T1567 _ = H1588
        obtain ⟨e1589, h1590⟩ := gen_new n1566 g1587
        have h1591 : H1588 T1567 = some (.tup [V.int (x1583), V.int (x1585)]) := h1590
        have fr1592 := S1568.free n1566
        obtain ⟨G1594, eG1595, hg1596, S1593⟩ := S1568.grow n1566 e1589 h1591 fr1592
        obtain ⟨z1597, hw⟩ := cW_mapA (zip_get hx1584 hx1586) hw
        have hw := cW_noEr hw
        have hw : cW (F_eighth_area_c2 ((PySem.Builtin.bitAnd (x') (7))) ((x1583, x1585))) _ (fun _ => False) := hw
        unfold F_eighth_area_c2 at hw
        refine ⟨_, _, rfl, (SqT.of (S1593.sG _ _ hg1596)), rfl, _, _, rfl, _, _, rfl, rfl, rfl, ?_⟩
        refine tyes_go ?_
        obtain ⟨g1599, hw⟩ := cW_grd hw
        obtain ⟨g1600, hw⟩ := cW_grd hw
        have h1601 := (e1589 _ _ h1569)
        refine ⟨_, rfl, _, _, rfl, rfl, _, rfl, _, _, rfl, rfl, g1599, _, rfl, _, rfl, _, _, rfl, rfl, g1600, _, _, rfl, rfl, _, h1601, (app_lenM z1597), ?_⟩
        generalize g1602 : upd H1588 D1533 _ = H1603
        obtain ⟨x1604, h1605⟩ := gen_mut g1602
        have S1606 := S1593.mut1 x1604 (.head _) h1605
        have hw := cW_ok hw
        have h1607 := (x1604 _ _ (e1589 _ _ h1579) (ne_of_none (e1523 _ _ h1502) n1534))
        have h1608 := (x1604 _ _ (e1589 _ _ h1580) (ne_of_none (e1523 _ _ h1501) n1534))
        have h1609 := (x1604 _ _ (e1589 _ _ h1581) (ne_of_none h1525 n1534))
        have w1610 : OwAll G1594 H1603 L1469 (vs1468) ((v1464 : (List (List Int))).map (oL oI)) := (OwAll.mono eG1595 keeps_refl (OwAll.mono (Same.refl _) (keeps_mut x1604 ((there_ne (fun b_ hb_ => (S1527.ow b_ (((fun b hb => (.tail _ (.tail _ (.tail _ (List.mem_append_left _ hb))))) : ∀ b ∈ L1469, b ∈ (p1519 :: (p1454 :: (a1467 :: (L1469 ++ []))))) b_ hb_)).2.1) n1534) : ∀ b ∈ L1469, b ≠ D1533)) (OwAll.mono (Same.refl _) (keeps_same e1589) w1582)))
        exact ⟨_, (acc1572 ++ [(((8 - (PySem.Builtin.bitAnd (x') (7))) * x1583) + ((PySem.Builtin.bitAnd (x') (7)) * x1585))]), (Same.trans eG1571 eG1595), S1606, h1607, h1608, h1609, (snoc_map h1605), w1610, (same_mut (Same.trans eo1578 e1589) x1604 n1534), hw⟩
      intro H1611 hw
      obtain ⟨G1614, acc1616, eG1615, S1612, h1623, h1624, h1625, h1613, w1626, eo1622, hw⟩ := hw
      have hw := hK1532 _ (cW_mapA0 zipM_len hw)
      have fr1627 := S1527.free n1534
      obtain ⟨g1628, hw⟩ := cW_grd hw
      obtain ⟨G1629, eG1630, hg1631, S1632⟩ := Sep.freeze (O' := (a1467 :: (p1454 :: (p1519 :: (L1469 ++ []))))) S1612 (.head _) h1613 fr1627 ((all_cons ⟨(.tail _ (.head _)), (ne_of_none (e1523 _ _ h1502) n1534)⟩ (all_cons ⟨(.tail _ (.tail _ (.head _))), (ne_of_none (e1523 _ _ h1501) n1534)⟩ (all_cons ⟨(.tail _ (.tail _ (.tail _ (.head _)))), (ne_of_none h1525 n1534)⟩ (all_app (fun b hb => ⟨((fun b hb => (.tail _ (.tail _ (.tail _ (.tail _ (List.mem_append_left _ hb)))))) : ∀ b ∈ L1469, b ∈ (D1533 :: (a1467 :: (p1454 :: (p1519 :: (L1469 ++ [])))))) b hb, (there_ne (fun b_ hb_ => (S1527.ow b_ (((fun b hb => (.tail _ (.tail _ (.tail _ (List.mem_append_left _ hb))))) : ∀ b ∈ L1469, b ∈ (p1519 :: (p1454 :: (a1467 :: (L1469 ++ []))))) b_ hb_)).2.1) n1534) b hb⟩) all_nil)))))
      refine ⟨_, _, _, rfl, rfl, h1624, (app_len (RpAll.mono eG1630 (RpAll.mono eG1615 d1503)) g1628), ?_⟩
      generalize g1633 : upd H1611 p1454 _ = H1634
      obtain ⟨x1635, h1636⟩ := gen_mut g1633
      have h1637 : H1634 p1454 = some (.lst (vs1488 ++ [V.ref D1533])) := h1636
      have S1638 := S1632.mut1 x1635 (.tail _ (.head _)) h1637
      have d1639 : RpAll G1629 (vs1488 ++ [V.ref D1533]) (((sums_1487) ++ [acc1616] : (List (List Int))).map (encL PyData.int)) := app_map (RpAll.mono eG1630 (RpAll.mono eG1615 d1503)) (RpAll.one (rp_mk_ints hg1631))
      have hw := cW_bnd hw
      have hw := cW_ok hw
      have hw := hK1517 _ hw
      have h1641 := (x1635 _ _ h1623 (ne_of_none h1460 n1471).symm)
      have w1642 : OwAll G1629 H1634 L1469 (vs1468) ((v1464 : (List (List Int))).map (oL oI)) := (OwAll.mono eG1630 keeps_refl (OwAll.mono (Same.refl _) (keeps_mut x1635 ((new_ne2 nb1472 (S1462.ow _ (.head _)).2.1) : ∀ b ∈ L1469, b ≠ p1454)) w1626))
      exact ⟨((sums_1487) ++ [acc1616]), _, _, _, rfl, (Same.trans (Same.trans eG1506 eG1615) eG1630), (S1638.sub (all_cons (.tail _ (.head _)) (all_cons (.head _) (all_app ((fun b hb => (.tail _ (.tail _ (.tail _ (List.mem_append_left _ hb))))) : ∀ b ∈ L1469, b ∈ (a1467 :: (p1454 :: (p1519 :: (L1469 ++ []))))) all_nil)))), h1637, h1641, d1639, w1642, hw⟩
    · intro σ H1643 hw
      obtain ⟨sums_1487, vs1488, u1489, G1649, rfl, eG1650, S1644, h1645, h1646, d1647, w1648, hw⟩ := hw
      have hw := hK1486 _ (cW_forS0 (by rw [(OwAll.rpA w1648 (encO_L encO_I) S1644.sG).len, List.length_map]) hw)
      have hw : cW (F_eighth_area_r1 ((PySem.Builtin.bitAnd (y') (7))) (sums_1487)) _ EE := hw
      unfold F_eighth_area_r1 at hw
      obtain ⟨G1652, eG1653, hg1654, S1655⟩ := Sep.freeze (O' := (a1467 :: (L1469 ++ []))) S1644 (.head _) h1645 fr1461 ((all_cons ⟨(.tail _ (.head _)), (ne_of_none h1460 n1471).symm⟩ (all_app (fun b hb => ⟨((fun b hb => (.tail _ (.tail _ (List.mem_append_left _ hb)))) : ∀ b ∈ L1469, b ∈ (p1454 :: (a1467 :: (L1469 ++ [])))) b hb, (new_ne2 nb1472 (S1462.ow _ (.head _)).2.1) b hb⟩) all_nil)))
      refine ⟨_, rfl, _, rfl, _, rfl, _, _, rfl, (SqL.of h1645), fun p1656 n1657 => ?_⟩
      generalize g1658 : upd H1643 p1656 _ = H1659
      obtain ⟨e1660, h1661⟩ := gen_new n1657 g1658
      have h1662 : H1659 p1656 = some (.lst (cutV (vs1488) (some (1)) none)) := h1661
      have fr1663 := S1655.free n1657
      have S1664 := S1655.new n1657 e1660 h1662 fr1663
      have d1665 : RpAll G1652 (cutV (vs1488) (some (1)) none) ((cutL (sums_1487) (some (1)) none : (List (List Int))).map (encL PyData.int)) := cut_all (some (1)) none (RpAll.mono eG1653 d1647)
      obtain ⟨K1668, hK1669, hw⟩ := cW_push hw
      refine ⟨_, _, _, _, rfl, .inl ⟨(SqL.of (S1664.sG _ _ hg1654)), (SqL.of h1662), fun D1670 n1671 => lc_zipM (K := K) (a := p1454) (b := p1656) (xs := vs1488) (ys := cutV (vs1488) (some (1)) none) (min ((sums_1487 : (List (List Int))).length) ((cutL (sums_1487) (some (1)) none : (List (List Int))).length)) (zipM_n (by rw [(RpAll.mono eG1653 d1647).len, List.length_map]) (by rw [d1665.len, List.length_map])) (fun i H' => ∃ (G' : Hp) (acc1673 : (List (List Int))) (vs1674 : List V) (L1672 : List Addr), Same G1652 G' ∧ Sep [] H G G' H' (D1670 :: (L1672 ++ (p1656 :: []))) ∧ H' p1656 = some (.lst (cutV (vs1488) (some (1)) none)) ∧ H' D1670 = some (.lst vs1674) ∧ OwAll G' H' L1672 vs1674 ((acc1673 : (List (List Int))).map (oL oI)) ∧ (∀ b ∈ L1672, H1659 b = none) ∧ (∀ b ∈ L1672, b ≠ D1670) ∧ Same H1659 H' ∧ cW (mapA (List.drop i (List.zip (sums_1487) (cutL (sums_1487) (some (1)) none))) acc1673 (fun x => noEr (F_eighth_area_c3 ((PySem.Builtin.bitAnd (y') (7))) x))) K1668 EE) ?_ ?_ ?_ ?_⟩⟩
      · generalize g1675 : upd H1659 D1670 _ = H1676
        obtain ⟨e1677, h1678⟩ := gen_new n1671 g1675
        have fr1679 := S1664.free n1671
        have S1680 := S1664.new n1671 e1677 h1678 fr1679
        have h1681 := (e1677 _ _ h1662)
        exact ⟨_, [], [], [], Same.refl _, (S1680.sub (all_cons (.head _) (all_app (L := []) all_nil (all_cons (.tail _ (.head _)) all_nil)))), h1681, h1678, OwAll.nil, all_nil, all_nil, e1677, hw⟩
      · intro i H1682 _ hw
        obtain ⟨G1685, acc1687, vs1688, L1690, eG1686, S1683, h1694, h1684, d1689, nb1691, nd1692, eo1693, hw⟩ := hw
        exact ⟨(SqL.of (S1683.sG _ _ (eG1686 _ _ hg1654))), (SqL.of h1694)⟩
      · intro i x y T1697 H1695 hj hj2 n1696 hw
        obtain ⟨G1700, acc1702, vs1703, L1705, eG1701, S1698, h1709, h1699, d1704, nb1706, nd1707, eo1708, hw⟩ := hw
        obtain ⟨x1710, hx1711, r1712⟩ := RpAll.get (RpAll.mono eG1701 (RpAll.mono eG1653 d1647)) hj
        obtain ⟨a1713, rfl, h1714⟩ := rp_ints r1712
        obtain ⟨x1715, hx1716, r1717⟩ := RpAll.get (RpAll.mono eG1701 d1665) hj2
        obtain ⟨a1718, rfl, h1719⟩ := rp_ints r1717
        generalize g1720 : upd H1695 T1697 _ = H1721
        obtain ⟨e1722, h1723⟩ := gen_new n1696 g1720
        have h1724 : H1721 T1697 = some (.tup [V.ref a1713, V.ref a1718]) := h1723
        have fr1725 := S1698.free n1696
        obtain ⟨G1727, eG1728, hg1729, S1726⟩ := S1698.grow n1696 e1722 h1724 fr1725
        obtain ⟨z1730, hw⟩ := cW_mapA (zip_get hx1711 hx1716) hw
        have hw := cW_noEr hw
        have hw : cW (F_eighth_area_c3 ((PySem.Builtin.bitAnd (y') (7))) ((x1710, x1715))) _ (fun _ => False) := hw
        unfold F_eighth_area_c3 at hw
        refine ⟨_, _, rfl, (SqT.of (S1726.sG _ _ hg1729)), rfl, _, _, rfl, _, _, rfl, rfl, rfl, ?_⟩
        refine tyes_go ?_
        obtain ⟨K1734, hK1735, hw⟩ := cW_push hw
        refine ⟨_, rfl, _, rfl, _, _, _, _, rfl, .inl ⟨(SqL.of (S1726.sG _ _ (eG1728 _ _ h1714))), (SqL.of (S1726.sG _ _ (eG1728 _ _ h1719))), fun D1736 n1737 => lc_zipM (K := K) (a := a1713) (b := a1718) (xs := (x1710 : List Int).map V.int) (ys := (x1715 : List Int).map V.int) (min ((x1710 : (List Int)).length) ((x1715 : (List Int)).length)) (zipM_n (by rw [List.length_map]) (by rw [List.length_map])) (fun i2 H' => ∃ (G' : Hp) (acc1739 : (List Int)), Same G1727 G' ∧ Sep [] H G G' H' (D1736 :: (D1670 :: (p1656 :: (L1705 ++ [])))) ∧ H' D1670 = some (.lst (vs1703)) ∧ H' p1656 = some (.lst (cutV (vs1488) (some (1)) none)) ∧ H' D1736 = some (.lst ((acc1739 : (List Int)).map V.int)) ∧ OwAll G' H' L1705 (vs1703) ((acc1702 : (List (List Int))).map (oL oI)) ∧ Same H1721 H' ∧ cW (mapA (List.drop i2 (List.zip (x1710) (x1715))) acc1739 (fun x => noEr (F_eighth_area_c4 ((PySem.Builtin.bitAnd (y') (7))) x))) K1734 (fun _ => False)) ?_ ?_ ?_ ?_⟩⟩
        · generalize g1741 : upd H1721 D1736 _ = H1742
          obtain ⟨e1743, h1744⟩ := gen_new n1737 g1741
          have fr1745 := S1726.free n1737
          have S1746 := S1726.new n1737 e1743 h1744 fr1745
          have h1747 := (e1743 _ _ (e1722 _ _ h1699))
          have h1748 := (e1743 _ _ (e1722 _ _ h1709))
          have w1749 : OwAll G1727 H1742 L1705 (vs1703) ((acc1702 : (List (List Int))).map (oL oI)) := (OwAll.mono eG1728 keeps_refl (OwAll.mono (Same.refl _) (keeps_same e1743) (OwAll.mono (Same.refl _) (keeps_same e1722) d1704)))
          exact ⟨_, [], Same.refl _, (S1746.sub (all_cons (.head _) (all_cons (.tail _ (.head _)) (all_cons (.tail _ (.tail _ (List.mem_append_right _ (.head _)))) (all_app ((fun b hb => (.tail _ (.tail _ (List.mem_append_left _ hb)))) : ∀ b ∈ L1705, b ∈ (D1736 :: (D1670 :: (L1705 ++ (p1656 :: []))))) all_nil))))), h1747, h1748, h1744, w1749, e1743, hw⟩
        · intro i2 H1750 _ hw
          obtain ⟨G1753, acc1755, eG1754, S1751, h1762, h1763, h1752, w1764, eo1761, hw⟩ := hw
          exact ⟨(SqL.of (S1751.sG _ _ (eG1754 _ _ (eG1728 _ _ h1714)))), (SqL.of (S1751.sG _ _ (eG1754 _ _ (eG1728 _ _ h1719))))⟩
        · intro i2 x y T1767 H1765 hj hj2 n1766 hw
          obtain ⟨G1770, acc1772, eG1771, S1768, h1779, h1780, h1769, w1781, eo1778, hw⟩ := hw
          obtain ⟨x1782, hx1783, rfl⟩ := map_get hj
          obtain ⟨x1784, hx1785, rfl⟩ := map_get hj2
          generalize g1786 : upd H1765 T1767 _ = H1787
          obtain ⟨e1788, h1789⟩ := gen_new n1766 g1786
          have h1790 : H1787 T1767 = some (.tup [V.int (x1782), V.int (x1784)]) := h1789
          have fr1791 := S1768.free n1766
          obtain ⟨G1793, eG1794, hg1795, S1792⟩ := S1768.grow n1766 e1788 h1790 fr1791
          obtain ⟨z1796, hw⟩ := cW_mapA (zip_get hx1783 hx1785) hw
          have hw := cW_noEr hw
          have hw : cW (F_eighth_area_c4 ((PySem.Builtin.bitAnd (y') (7))) ((x1782, x1784))) _ (fun _ => False) := hw
          unfold F_eighth_area_c4 at hw
          refine ⟨_, _, rfl, (SqT.of (S1792.sG _ _ hg1795)), rfl, _, _, rfl, _, _, rfl, rfl, rfl, ?_⟩
          refine tyes_go ?_
          obtain ⟨g1798, hw⟩ := cW_grd hw
          obtain ⟨g1799, hw⟩ := cW_grd hw
          have h1800 := (e1788 _ _ h1769)
          refine ⟨_, rfl, _, _, rfl, rfl, _, rfl, _, _, rfl, rfl, g1798, _, rfl, _, rfl, _, _, rfl, rfl, g1799, _, _, rfl, rfl, _, _, rfl, rfl, _, _, rfl, rfl, (show (0 : Int) ≤ 6 by decide), _, h1800, (app_lenM z1796), ?_⟩
          generalize g1801 : upd H1787 D1736 _ = H1802
          obtain ⟨x1803, h1804⟩ := gen_mut g1801
          have S1805 := S1792.mut1 x1803 (.head _) h1804
          have hw := cW_ok hw
          have h1806 := (x1803 _ _ (e1788 _ _ h1779) (ne_of_none (e1722 _ _ h1699) n1737))
          have h1807 := (x1803 _ _ (e1788 _ _ h1780) (ne_of_none (e1722 _ _ h1709) n1737))
          have w1808 : OwAll G1793 H1802 L1705 (vs1703) ((acc1702 : (List (List Int))).map (oL oI)) := (OwAll.mono eG1794 keeps_refl (OwAll.mono (Same.refl _) (keeps_mut x1803 ((there_ne (fun b_ hb_ => (S1726.ow b_ (((fun b hb => (.tail _ (List.mem_append_left _ hb))) : ∀ b ∈ L1705, b ∈ (D1670 :: (L1705 ++ (p1656 :: [])))) b_ hb_)).2.1) n1737) : ∀ b ∈ L1705, b ≠ D1736)) (OwAll.mono (Same.refl _) (keeps_same e1788) w1781)))
          exact ⟨_, (acc1772 ++ [(((((8 - (PySem.Builtin.bitAnd (y') (7))) * x1782) + ((PySem.Builtin.bitAnd (y') (7)) * x1784)) + 32) / 64)]), (Same.trans eG1771 eG1794), S1805, h1806, h1807, (snoc_map h1804), w1808, (same_mut (Same.trans eo1778 e1788) x1803 n1737), hw⟩
        intro H1809 hw
        obtain ⟨G1812, acc1814, eG1813, S1810, h1821, h1822, h1811, w1823, eo1820, hw⟩ := hw
        have hw := hK1735 _ (cW_mapA0 zipM_len hw)
        have fr1824 := S1726.free n1737
        refine ⟨_, h1821, (app_len (OwAll.rpA w1823 (encO_L encO_I) S1810.sG) z1730), ?_⟩
        generalize g1825 : upd H1809 D1670 _ = H1826
        obtain ⟨x1827, h1828⟩ := gen_mut g1825
        have S1829 := S1810.mut1 x1827 (.tail _ (.head _)) h1828
        have hw := cW_ok hw
        have h1830 := (x1827 _ _ h1822 (ne_of_none h1662 n1671))
        exact ⟨_, (acc1702 ++ [acc1814]), _, (L1705 ++ (D1736 :: ([] : List Addr))), (Same.trans (Same.trans eG1701 eG1728) eG1813), (S1829.sub (all_cons (.tail _ (.head _)) (all_app (all_app ((fun b hb => (.tail _ (.tail _ (.tail _ (List.mem_append_left _ hb))))) : ∀ b ∈ L1705, b ∈ (D1736 :: (D1670 :: (p1656 :: (L1705 ++ []))))) (all_cons (.head _) all_nil)) (all_cons (.tail _ (.tail _ (.head _))) all_nil)))), h1830, h1828, (OwAll.mono (Same.refl _) (keeps_mut x1827 ((all_app nd1707 (all_cons (ne_of_none (e1722 _ _ h1699) n1737).symm all_nil)) : ∀ b ∈ (L1705 ++ (D1736 :: ([] : List Addr))), b ≠ D1670)) (OwAll.snocM w1823 (Ow.ints h1811) ((fun b hb => (nm_cons ((there_ne (fun b_ hb_ => (S1726.ow b_ (((fun b hb => (.tail _ (List.mem_append_left _ hb))) : ∀ b ∈ L1705, b ∈ (D1670 :: (L1705 ++ (p1656 :: [])))) b_ hb_)).2.1) n1737) b hb) nm_nil)) : ∀ b ∈ L1705, b ∉ (D1736 :: ([] : List Addr))))), ((all_app nb1706 (all_cons (none_of_same (Same.trans eo1708 e1722) n1737) all_nil)) : ∀ b ∈ (L1705 ++ (D1736 :: ([] : List Addr))), H1659 b = none), ((all_app nd1707 (all_cons (ne_of_none (e1722 _ _ h1699) n1737).symm all_nil)) : ∀ b ∈ (L1705 ++ (D1736 :: ([] : List Addr))), b ≠ D1670), (same_mut (Same.trans (Same.trans eo1708 e1722) eo1820) x1827 n1671), hw⟩
      intro H1831 hw
      obtain ⟨G1834, acc1836, vs1837, L1839, eG1835, S1832, h1843, h1833, d1838, nb1840, nd1841, eo1842, hw⟩ := hw
      have hw := hK1669 _ (cW_mapA0 zipM_len hw)
      have fr1844 := S1664.free n1671
      have hw := cW_ok hw
      exact hK0 _ hw _ _ _ _ _ fr1844 ((fun b hb => Sep.h0 S1832 (((fun b hb => (.tail _ (List.mem_append_left _ hb))) : ∀ b ∈ L1839, b ∈ (D1670 :: (L1839 ++ (p1656 :: [])))) b hb) nm_nil) : ∀ b ∈ L1839, H b = none) (nd1841 : ∀ b ∈ L1839, b ≠ D1670) S1832.b0 S1832.g0 S1832.sG S1832.gn (S1832.ow _ (.head _)).1 ((fun b hb => (S1832.ow b (((fun b hb => (.tail _ (List.mem_append_left _ hb))) : ∀ b ∈ L1839, b ∈ (D1670 :: (L1839 ++ (p1656 :: [])))) b hb)).1) : ∀ b ∈ L1839, G1834 b = none) h1833 d1838

abbrev N__law_at : List Str := ["plane", "x", "y", "row"]
theorem sc__law_at : FnScope N__law_at ["plane", "x", "y"] (defScope s__law_at) := ⟨rfl, rfl, rfl, by decide +kernel, rfl, by decide +kernel, by decide +kernel⟩
theorem ok__law_at (D : DefX K mg "_law_at" s__law_at ["plane", "x", "y"] pats__law_at) (T : Txt K mg AD)  : CalX P w K mg base 1 "_law_at" (sp__law_at K AD) pats__law_at := by
  refine D.ok sc__law_at (fun vs H Q E h => ?_) (fun f cdv A_ outer s H vs Q E hr h => ?_)
  · obtain ⟨G, v_plane, plane', x', y', rfl, _⟩ := h
    rfl
  · obtain ⟨G, v_plane, plane', x', y', rfl, sG, r_plane, hw⟩ := h
    refine ⟨_, (pss_cons (ps_set (i := 3) sc__law_at.nd rfl (Or.inl rfl) (pe_ix (ix_listK (K := K)) (pv 0) (pe_callB (call_min2 rfl) (by rfl) T.b_min (by decide +kernel) (pa_cons (pe_callB (call_max2 rfl) (by rfl) T.b_max (by decide +kernel) (pa_cons (pv 2) (pa_cons pe_int pa_nil))) (pa_cons (pe_op op_sub (pe_callB (call_lenLK (K := K)) (by rfl) T.b_len (by decide +kernel) (pa_cons (pv 0) pa_nil)) pe_int) pa_nil))) (fun _ _ => rfl)))
      (pss_one (ps_ret (pe_ix (ix_listK (K := K)) (pv 3) (pe_callB (call_min2 rfl) (by rfl) T.b_min (by decide +kernel) (pa_cons (pe_callB (call_max2 rfl) (by rfl) T.b_max (by decide +kernel) (pa_cons (pv 1) (pa_cons pe_int pa_nil))) (pa_cons (pe_op op_sub (pe_callB (call_lenLiK (K := K)) (by rfl) T.b_len (by decide +kernel) (pa_cons (pv 3) pa_nil)) pe_int) pa_nil))) (fun _ _ => rfl))))), ?_⟩
    obtain ⟨KK, EE, hK0, hE, hw⟩ := cW_gen hw
    have S0 := Sep.startG sG
    unfold F__law_at at hw
    obtain ⟨a1845, vs1846, rfl, h1847, d1848⟩ := rp_list r_plane
    obtain ⟨g1849, hw⟩ := cW_grd hw
    obtain ⟨v1850, a1851, r1852⟩ := RpAll.ixD (k := (if ((((plane') : (List (List Int))).length : Int) - 1) < (if 0 > y' then 0 else y') then ((((plane') : (List (List Int))).length : Int) - 1) else (if 0 > y' then 0 else y'))) d1848 g1849
    obtain ⟨a1853, rfl, h1854⟩ := rp_ints r1852
    obtain ⟨g1855, hw⟩ := cW_grd hw
    refine ⟨_, rfl, _, rfl, _, _, rfl, _, rfl, _, _, _, rfl, (SqL.of (S0.bM _ _ h1847)), (by rw [d1848.len, List.length_map]), _, _, rfl, rfl, _, _, rfl, _, _, _, _, rfl, rfl, (SqL.of (S0.bM _ _ h1847)), a1851, _, rfl, _, rfl, _, _, rfl, _, rfl, _, _, rfl, (SqL.of (S0.bM _ _ h1854)), _, _, rfl, rfl, _, _, rfl, _, _, _, _, rfl, rfl, (SqL.of (S0.bM _ _ h1854)), (atI_map g1855), ?_⟩
    have hw := cW_ok hw
    exact hK0 _ hw

abbrev N__law_quarter : List Str := ["plane", "x", "y", "top", "weights", "across", "down", "i", "j", "total", "t", "s"]
theorem sc__law_quarter : FnScope N__law_quarter ["plane", "x", "y", "top"] (defScope s__law_quarter) := ⟨rfl, rfl, rfl, by decide +kernel, rfl, by decide +kernel, by decide +kernel⟩
theorem ok__law_quarter (D : DefX K mg "_law_quarter" s__law_quarter ["plane", "x", "y", "top"] pats__law_quarter) (T : Txt K mg AD) (c__law_at : CalX P w K mg base 1 "_law_at" (sp__law_at K AD) pats__law_at) : CalX P w K mg base 2 "_law_quarter" (sp__law_quarter K AD) pats__law_quarter := by
  refine D.ok sc__law_quarter (fun vs H Q E h => ?_) (fun f cdv A_ outer s H vs Q E hr h => ?_)
  · obtain ⟨G, v_plane, plane', x', y', top', rfl, _⟩ := h
    rfl
  · obtain ⟨G, v_plane, plane', x', y', top', rfl, sG, r_plane, hw⟩ := h
    refine ⟨_, (pss_cons (ps_set (i := 4) sc__law_quarter.nd rfl (Or.inl rfl) (pe_lst (pa_cons (pe_lst (pa_cons pe_int (pa_cons pe_int (pa_cons pe_int (pa_cons pe_int (pa_cons pe_int (pa_cons pe_int pa_nil))))))) (pa_cons (pe_lst (pa_cons pe_int (pa_cons (pe_un un_neg pe_int) (pa_cons pe_int (pa_cons pe_int (pa_cons (pe_un un_neg pe_int) (pa_cons pe_int pa_nil))))))) (pa_cons (pe_lst (pa_cons pe_int (pa_cons (pe_un un_neg pe_int) (pa_cons pe_int (pa_cons pe_int (pa_cons (pe_un un_neg pe_int) (pa_cons pe_int pa_nil))))))) (pa_cons (pe_lst (pa_cons pe_int (pa_cons (pe_un un_neg pe_int) (pa_cons pe_int (pa_cons pe_int (pa_cons (pe_un un_neg pe_int) (pa_cons pe_int pa_nil))))))) pa_nil))))))
      (pss_cons (ps_set (i := 5) sc__law_quarter.nd rfl (Or.inr rfl) (pe_ix (ix_listK (K := K)) (pv 4) (pe_op op_and (pv 1) pe_int) (fun _ _ => rfl)))
      (pss_cons (ps_set (i := 6) sc__law_quarter.nd rfl (Or.inl rfl) (pe_ix (ix_listK (K := K)) (pv 4) (pe_op op_and (pv 2) pe_int) (fun _ _ => rfl)))
      (pss_cons (ps_set (i := 7) sc__law_quarter.nd rfl (Or.inr rfl) (pe_op op_sub (pe_op op_shr (pv 1) pe_int) pe_int))
      (pss_cons (ps_set (i := 8) sc__law_quarter.nd rfl (Or.inr rfl) (pe_op op_sub (pe_op op_shr (pv 2) pe_int) pe_int))
      (pss_cons (ps_set (i := 9) sc__law_quarter.nd rfl (Or.inl rfl) pe_int)
      (pss_cons (ps_for (passes_of rfl) rfl (pi_range1 rfl T.b_range (pa_cons pe_int pa_nil)) (pg_name (i := 10) sc__law_quarter.nd rfl (Or.inr rfl)) (pss_one (ps_if (pt_cmp (pc_neI (pe_ix (ix_listK (K := K)) (pv 6) (pv 10) (fun _ _ => rfl)) pe_int)) (pss_one (ps_set (i := 9) sc__law_quarter.nd rfl (Or.inl rfl) (pe_op op_add (pv 9) (pe_op op_mul (pe_ix (ix_listK (K := K)) (pv 6) (pv 10) (fun _ _ => rfl)) (pe_callB (cr_sumK (K := K) rfl) (by rfl) T.b_sum (by decide +kernel) (pa_cons (pe_lc (own := [("s", 11)]) (g := gName 11) (by rfl) sc__law_quarter.nd (pi_range1 rfl T.b_range (pa_cons pe_int pa_nil)) (blkOk_by (own := [("s", 11)]) (N := N__law_quarter) (sc := defScope s__law_quarter) (by decide +kernel)) (fun _ _ _ _ _ => (pg_name (i := 11) sc__law_quarter.nd rfl (Or.inl rfl))) (fun _ _ _ _ _ => pts_nil) (fun _ _ _ _ _ => (pe_op op_mul (pe_ix (ix_listK (K := K)) (pv 5) (pv 11) (fun _ _ => rfl)) (vx_callX c__law_at pat__law_at_0 (.head _) hr (by decide) takes0 rfl (pa_cons (pv 0) (pa_cons (pe_op op_add (pv 7) (pv 11)) (pa_cons (pe_op op_add (pv 8) (pv 10)) pa_nil))) pk_nil)))) pa_nil)))))) pss_nil)))
      (pss_one (ps_ret (pe_callB (call_min2 rfl) (by rfl) T.b_min (by decide +kernel) (pa_cons (pe_callB (call_max2 rfl) (by rfl) T.b_max (by decide +kernel) (pa_cons (pe_op op_shr (pv 9) pe_int) (pa_cons pe_int pa_nil))) (pa_cons (pv 3) pa_nil)))))))))))), ?_⟩
    obtain ⟨KK, EE, hK0, hE, hw⟩ := cW_gen hw
    have S0 := Sep.startG sG
    unfold F__law_quarter at hw
    obtain ⟨a1856, vs1857, rfl, h1858, d1859⟩ := rp_list r_plane
    refine ⟨(by show 6 ≤ sizeLine; decide), fun p1860 n1861 => ?_⟩
    generalize g1862 : upd H p1860 _ = H1863
    obtain ⟨e1864, h1865⟩ := gen_new n1861 g1862
    have h1866 : H1863 p1860 = some (.lst (([0, 0, 64, 0, 0, 0] : (List Int)).map V.int)) := h1865
    have fr1867 := S0.free n1861
    have S1868 := S0.new n1861 e1864 h1866 fr1867
    refine ⟨_, rfl, _, rfl, (by show 6 ≤ sizeLine; decide), fun p1869 n1870 => ?_⟩
    generalize g1871 : upd H1863 p1869 _ = H1872
    obtain ⟨e1873, h1874⟩ := gen_new n1870 g1871
    have h1875 : H1872 p1869 = some (.lst (([1, (-5), 52, 20, (-5), 1] : (List Int)).map V.int)) := h1874
    have fr1876 := S1868.free n1870
    have S1877 := S1868.new n1870 e1873 h1875 fr1876
    refine ⟨_, rfl, _, rfl, (by show 6 ≤ sizeLine; decide), fun p1878 n1879 => ?_⟩
    generalize g1880 : upd H1872 p1878 _ = H1881
    obtain ⟨e1882, h1883⟩ := gen_new n1879 g1880
    have h1884 : H1881 p1878 = some (.lst (([2, (-10), 40, 40, (-10), 2] : (List Int)).map V.int)) := h1883
    have fr1885 := S1877.free n1879
    have S1886 := S1877.new n1879 e1882 h1884 fr1885
    refine ⟨_, rfl, _, rfl, (by show 6 ≤ sizeLine; decide), fun p1887 n1888 => ?_⟩
    generalize g1889 : upd H1881 p1887 _ = H1890
    obtain ⟨e1891, h1892⟩ := gen_new n1888 g1889
    have h1893 : H1890 p1887 = some (.lst (([1, (-5), 20, 52, (-5), 1] : (List Int)).map V.int)) := h1892
    have fr1894 := S1886.free n1888
    have S1895 := S1886.new n1888 e1891 h1893 fr1894
    have h1896 := (e1891 _ _ (e1882 _ _ (e1873 _ _ h1866)))
    obtain ⟨G1897, eG1898, hg1899, S1900⟩ := Sep.freeze (O' := [p1887, p1878, p1869]) S1895 (.tail _ (.tail _ (.tail _ (.head _)))) h1896 fr1867 ((all_cons ⟨(.head _), (ne_of_none (e1882 _ _ (e1873 _ _ h1866)) n1888).symm⟩ (all_cons ⟨(.tail _ (.head _)), (ne_of_none (e1873 _ _ h1866) n1879).symm⟩ (all_cons ⟨(.tail _ (.tail _ (.head _))), (ne_of_none h1866 n1870).symm⟩ all_nil))))
    have h1901 := (e1891 _ _ (e1882 _ _ h1875))
    obtain ⟨G1902, eG1903, hg1904, S1905⟩ := Sep.freeze (O' := [p1887, p1878]) S1900 (.tail _ (.tail _ (.head _))) h1901 fr1876 ((all_cons ⟨(.head _), (ne_of_none (e1882 _ _ h1875) n1888).symm⟩ (all_cons ⟨(.tail _ (.head _)), (ne_of_none h1875 n1879).symm⟩ all_nil)))
    have h1906 := (e1891 _ _ h1884)
    obtain ⟨G1907, eG1908, hg1909, S1910⟩ := Sep.freeze (O' := [p1887]) S1905 (.tail _ (.head _)) h1906 fr1885 ((all_cons ⟨(.head _), (ne_of_none h1884 n1888).symm⟩ all_nil))
    obtain ⟨G1911, eG1912, hg1913, S1914⟩ := Sep.freeze (O' := []) S1910 (.head _) h1893 fr1894 (all_nil)
    refine ⟨(by show 4 ≤ sizeLine; decide), fun p1915 n1916 => ?_⟩
    generalize g1917 : upd H1890 p1915 _ = H1918
    obtain ⟨e1919, h1920⟩ := gen_new n1916 g1917
    have h1921 : H1918 p1915 = some (.lst ([V.ref p1860, V.ref p1869, V.ref p1878, V.ref p1887])) := h1920
    have fr1922 := S1914.free n1916
    have S1923 := S1914.new n1916 e1919 h1921 fr1922
    have d1924 : RpAll G1911 ([V.ref p1860, V.ref p1869, V.ref p1878, V.ref p1887]) (([[0, 0, 64, 0, 0, 0], [1, (-5), 52, 20, (-5), 1], [2, (-10), 40, 40, (-10), 2], [1, (-5), 20, 52, (-5), 1]] : (List (List Int))).map (encL PyData.int)) := (RpAll.cons (rp_mk_ints (eG1912 _ _ (eG1908 _ _ (eG1903 _ _ hg1899)))) (RpAll.cons (rp_mk_ints (eG1912 _ _ (eG1908 _ _ hg1904))) (RpAll.cons (rp_mk_ints (eG1912 _ _ hg1909)) (RpAll.cons (rp_mk_ints hg1913) RpAll.nil))))
    obtain ⟨g1925, hw⟩ := cW_grd hw
    obtain ⟨v1926, a1927, r1928⟩ := RpAll.ixD (k := (PySem.Builtin.bitAnd (x') (3))) d1924 g1925
    obtain ⟨a1929, rfl, h1930⟩ := rp_ints r1928
    obtain ⟨g1931, hw⟩ := cW_grd hw
    obtain ⟨v1932, a1933, r1934⟩ := RpAll.ixD (k := (PySem.Builtin.bitAnd (y') (3))) d1924 g1931
    obtain ⟨a1935, rfl, h1936⟩ := rp_ints r1934
    refine ⟨_, rfl, _, rfl, _, _, rfl, rfl, _, _, _, _, rfl, rfl, (SqL.of h1921), a1927, _, rfl, _, rfl, _, _, rfl, rfl, _, _, _, _, rfl, rfl, (SqL.of h1921), a1933, _, rfl, _, _, rfl, rfl, (show (0 : Int) ≤ 2 by decide), _, _, rfl, rfl, ?_⟩
    have hw := cW_bnd hw
    refine ⟨_, rfl, _, _, rfl, rfl, (show (0 : Int) ≤ 2 by decide), _, _, rfl, rfl, ?_⟩
    have hw := cW_bnd hw
    obtain ⟨K1945, hK1946, hw⟩ := cW_push hw
    refine ⟨_, rfl, (by decide), (by decide), for_range (lo := 0) (n := Int.toNat (6)) (fun i σ H' => ∃ (total_1947 : Int) (u1948 : Option V) (G' : Hp), σ = [some (V.ref a1856), some (V.int (x')), some (V.int (y')), some (V.int (top')), some (V.ref p1915), some (V.ref a1929), some (V.ref a1935), some (V.int (((x' / 4) - 2))), some (V.int (((y' / 4) - 2))), some (V.int total_1947), u1948, none] ∧ Same G1911 G' ∧ Sep [] H G G' H' [p1915] ∧ H' p1915 = some (.lst ([V.ref p1860, V.ref p1869, V.ref p1878, V.ref p1887])) ∧ cW (forS (List.drop i (rng (0) (Int.toNat (6)))) total_1947 (fun s x => F__law_quarter_b1 (plane') ((itD ([[0, 0, 64, 0, 0, 0], [1, (-5), 52, 20, (-5), 1], [2, (-10), 40, 40, (-10), 2], [1, (-5), 20, 52, (-5), 1]]) ((PySem.Builtin.bitAnd (x') (3))))) ((itD ([[0, 0, 64, 0, 0, 0], [1, (-5), 52, 20, (-5), 1], [2, (-10), 40, 40, (-10), 2], [1, (-5), 20, 52, (-5), 1]]) ((PySem.Builtin.bitAnd (y') (3))))) (((x' / 4) - 2)) (((y' / 4) - 2)) s x)) K1945 EE) ?_ ?_ ?_⟩
    · exact ⟨(2048), _, _, rfl, (Same.refl _), S1923, h1921, hw⟩
    · intro i σ H1949 hi hw
      obtain ⟨total_1947, u1948, G1952, rfl, eG1953, S1950, h1951, hw⟩ := hw
      have hw := cW_forS (rng_get hi) hw
      generalize (0 + (i : Int)) = x1954 at hw ⊢
      have hw : cW (F__law_quarter_b1 (plane') ((itD ([[0, 0, 64, 0, 0, 0], [1, (-5), 52, 20, (-5), 1], [2, (-10), 40, 40, (-10), 2], [1, (-5), 20, 52, (-5), 1]]) ((PySem.Builtin.bitAnd (x') (3))))) ((itD ([[0, 0, 64, 0, 0, 0], [1, (-5), 52, 20, (-5), 1], [2, (-10), 40, 40, (-10), 2], [1, (-5), 20, 52, (-5), 1]]) ((PySem.Builtin.bitAnd (y') (3))))) (((x' / 4) - 2)) (((y' / 4) - 2)) (total_1947) (x1954)) _ EE := hw
      unfold F__law_quarter_b1 at hw
      obtain ⟨K1956, hK1957, hw⟩ := cW_name hw
      obtain ⟨g1959, hw⟩ := cW_grd hw
      refine ⟨_, rfl, _, rfl, _, _, _, _, rfl, rfl, (SqL.of (S1950.sG _ _ (eG1953 _ _ h1936))), (atI_map g1959), _, _, rfl, rfl, _, rfl, ?_⟩
      refine iteN (fun c1960 => ?_) (fun c1960 => ?_)
      · have hw := cW_neg c1960 hw
        obtain ⟨g1961, hw⟩ := cW_grd hw
        obtain ⟨K1968, hK1969, hw⟩ := cW_push hw
        refine ⟨_, rfl, _, rfl, _, rfl, _, _, _, _, rfl, rfl, (SqL.of (S1950.sG _ _ (eG1953 _ _ h1936))), (atI_map g1961), _, rfl, (by decide), (by decide), fun D1970 n1971 => lc_range (lo := 0) (n := Int.toNat (6)) (fun i H' => ∃ (G' : Hp) (acc1973 : (List Int)), Same G1952 G' ∧ Sep [] H G G' H' [D1970, p1915] ∧ H' p1915 = some (.lst ([V.ref p1860, V.ref p1869, V.ref p1878, V.ref p1887])) ∧ H' D1970 = some (.lst ((acc1973 : (List Int)).map V.int)) ∧ Same H1949 H' ∧ cW (mapA (List.drop i (rng (0) (Int.toNat (6)))) acc1973 (fun x => noEr (F__law_quarter_c2 (plane') ((itD ([[0, 0, 64, 0, 0, 0], [1, (-5), 52, 20, (-5), 1], [2, (-10), 40, 40, (-10), 2], [1, (-5), 20, 52, (-5), 1]]) ((PySem.Builtin.bitAnd (x') (3))))) (((x' / 4) - 2)) (((y' / 4) - 2)) (x1954) x))) K1968 EE) ?_ ?_ ?_⟩
        · generalize g1975 : upd H1949 D1970 _ = H1976
          obtain ⟨e1977, h1978⟩ := gen_new n1971 g1975
          have fr1979 := S1950.free n1971
          have S1980 := S1950.new n1971 e1977 h1978 fr1979
          have h1981 := (e1977 _ _ h1951)
          exact ⟨_, [], Same.refl _, S1980, h1981, h1978, e1977, hw⟩
        · intro i H1982 hi hw
          obtain ⟨G1985, acc1987, eG1986, S1983, h1994, h1984, eo1993, hw⟩ := hw
          obtain ⟨z1995, hw⟩ := cW_mapA (rng_get hi) hw
          generalize (0 + (i : Int)) = x1996 at hw ⊢
          have hw := cW_noEr hw
          have hw : cW (F__law_quarter_c2 (plane') ((itD ([[0, 0, 64, 0, 0, 0], [1, (-5), 52, 20, (-5), 1], [2, (-10), 40, 40, (-10), 2], [1, (-5), 20, 52, (-5), 1]]) ((PySem.Builtin.bitAnd (x') (3))))) (((x' / 4) - 2)) (((y' / 4) - 2)) (x1954) (x1996)) _ (fun _ => False) := hw
          unfold F__law_quarter_c2 at hw
          refine ⟨rfl, ?_⟩
          refine tyes_go ?_
          obtain ⟨g1998, hw⟩ := cW_grd hw
          refine ⟨_, rfl, _, rfl, _, _, _, _, rfl, rfl, (SqL.of (S1983.sG _ _ (eG1986 _ _ (eG1953 _ _ h1930)))), (atI_map g1998), _, rfl, _, rfl, _, rfl, _, _, rfl, rfl, _, rfl, _, rfl, _, _, rfl, rfl, rfl, rfl, G1985, _, _, _, _, rfl, S1983.sG, (Rp.hide_nil (rp_mk_list (S1983.bM _ _ h1858) (RpAll.mono S1983.bM d1859))), cW_call hw (fun v1999 hw => ?_) (fun e he => he.elim)⟩
          obtain ⟨g2000, hw⟩ := cW_grd hw
          refine ⟨_, _, rfl, rfl, g2000, _, h1984, (app_lenM z1995), ?_⟩
          generalize g2001 : upd H1982 D1970 _ = H2002
          obtain ⟨x2003, h2004⟩ := gen_mut g2001
          have S2005 := S1983.mut1 x2003 (.head _) h2004
          have hw := cW_ok hw
          have h2006 := (x2003 _ _ h1994 (ne_of_none h1951 n1971))
          exact ⟨_, (acc1987 ++ [((itD ((itD ([[0, 0, 64, 0, 0, 0], [1, (-5), 52, 20, (-5), 1], [2, (-10), 40, 40, (-10), 2], [1, (-5), 20, 52, (-5), 1]]) ((PySem.Builtin.bitAnd (x') (3))))) (x1996)) * v1999)]), eG1986, S2005, h2006, (snoc_map h2004), (same_mut eo1993 x2003 n1971), hw⟩
        intro H2007 hw
        obtain ⟨G2010, acc2012, eG2011, S2008, h2019, h2009, eo2018, hw⟩ := hw
        have hw := hK1969 _ (cW_mapA0 (rng_len _ _).symm hw)
        have fr2020 := S1950.free n1971
        obtain ⟨g2021, hw⟩ := cW_grd hw
        refine ⟨_, _, rfl, (SqL.of h2009), _, _, rfl, rfl, g2021, _, _, rfl, rfl, ?_⟩
        have hw := cW_bnd hw
        have hw := cW_ok hw
        have hw := hK1957 _ hw
        exact ⟨((total_1947 + ((itD ((itD ([[0, 0, 64, 0, 0, 0], [1, (-5), 52, 20, (-5), 1], [2, (-10), 40, 40, (-10), 2], [1, (-5), 20, 52, (-5), 1]]) ((PySem.Builtin.bitAnd (y') (3))))) (x1954)) * (List.sum (acc2012))))), _, _, rfl, (Same.trans eG1953 eG2011), (S2008.sub (all_cons (.tail _ (.head _)) all_nil)), h2019, hw⟩
      · have hw := cW_pos c1960 hw
        have hw := cW_ok hw
        have hw := hK1957 _ hw
        exact ⟨(total_1947), _, _, rfl, eG1953, S1950, h1951, hw⟩
    · intro σ H2023 hw
      obtain ⟨total_1947, u1948, G2026, rfl, eG2027, S2024, h2025, hw⟩ := hw
      have hw := hK1946 _ (cW_forS0 (rng_len _ _).symm hw)
      have hw : cW (F__law_quarter_r1 (top') (total_1947)) _ EE := hw
      unfold F__law_quarter_r1 at hw
      refine ⟨_, rfl, _, _, rfl, rfl, (show (0 : Int) ≤ 12 by decide), _, _, rfl, _, rfl, _, _, rfl, ?_⟩
      have hw := cW_ok hw
      exact hK0 _ hw _ S2024.b0

abbrev N__law_eighth : List Str := ["plane", "x", "y", "f", "g", "i", "j", "upper", "lower"]
theorem sc__law_eighth : FnScope N__law_eighth ["plane", "x", "y"] (defScope s__law_eighth) := ⟨rfl, rfl, rfl, by decide +kernel, rfl, by decide +kernel, by decide +kernel⟩
theorem ok__law_eighth (D : DefX K mg "_law_eighth" s__law_eighth ["plane", "x", "y"] pats__law_eighth) (T : Txt K mg AD) (c__law_at : CalX P w K mg base 1 "_law_at" (sp__law_at K AD) pats__law_at) : CalX P w K mg base 2 "_law_eighth" (sp__law_eighth K AD) pats__law_eighth := by
  refine D.ok sc__law_eighth (fun vs H Q E h => ?_) (fun f cdv A_ outer s H vs Q E hr h => ?_)
  · obtain ⟨G, v_plane, plane', x', y', rfl, _⟩ := h
    rfl
  · obtain ⟨G, v_plane, plane', x', y', rfl, sG, r_plane, hw⟩ := h
    refine ⟨_, (pss_cons (ps_set (i := 3) sc__law_eighth.nd rfl (Or.inl rfl) (pe_op op_and (pv 1) pe_int))
      (pss_cons (ps_set (i := 4) sc__law_eighth.nd rfl (Or.inl rfl) (pe_op op_and (pv 2) pe_int))
      (pss_cons (ps_set (i := 5) sc__law_eighth.nd rfl (Or.inl rfl) (pe_op op_shr (pv 1) pe_int))
      (pss_cons (ps_set (i := 6) sc__law_eighth.nd rfl (Or.inl rfl) (pe_op op_shr (pv 2) pe_int))
      (pss_cons (ps_set (i := 7) sc__law_eighth.nd rfl (Or.inl rfl) (pe_op op_add (pe_op op_mul (pe_op op_sub pe_int (pv 3)) (vx_callX c__law_at pat__law_at_0 (.head _) hr (by decide) (takes_of rfl rfl rfl rfl) rfl (pa_cons (pv 0) (pa_cons (pv 5) (pa_cons (pv 6) pa_nil))) pk_nil)) (pe_op op_mul (pv 3) (vx_callX c__law_at pat__law_at_0 (.head _) hr (by decide) (takes_of rfl rfl rfl rfl) rfl (pa_cons (pv 0) (pa_cons (pe_op op_add (pv 5) pe_int) (pa_cons (pv 6) pa_nil))) pk_nil))))
      (pss_cons (ps_set (i := 8) sc__law_eighth.nd rfl (Or.inl rfl) (pe_op op_add (pe_op op_mul (pe_op op_sub pe_int (pv 3)) (vx_callX c__law_at pat__law_at_0 (.head _) hr (by decide) (takes_of rfl rfl rfl rfl) rfl (pa_cons (pv 0) (pa_cons (pv 5) (pa_cons (pe_op op_add (pv 6) pe_int) pa_nil))) pk_nil)) (pe_op op_mul (pv 3) (vx_callX c__law_at pat__law_at_0 (.head _) hr (by decide) (takes_of rfl rfl rfl rfl) rfl (pa_cons (pv 0) (pa_cons (pe_op op_add (pv 5) pe_int) (pa_cons (pe_op op_add (pv 6) pe_int) pa_nil))) pk_nil))))
      (pss_one (ps_ret (pe_op op_shr (pe_op op_add (pe_op op_add (pe_op op_mul (pe_op op_sub pe_int (pv 4)) (pv 7)) (pe_op op_mul (pv 4) (pv 8))) pe_int) pe_int))))))))), ?_⟩
    obtain ⟨KK, EE, hK0, hE, hw⟩ := cW_gen hw
    have S0 := Sep.startG sG
    unfold F__law_eighth at hw
    obtain ⟨a2029, vs2030, rfl, h2031, d2032⟩ := rp_list r_plane
    refine ⟨_, rfl, _, _, rfl, rfl, ?_⟩
    have hw := cW_bnd hw
    refine ⟨_, rfl, _, _, rfl, rfl, ?_⟩
    have hw := cW_bnd hw
    refine ⟨_, rfl, _, _, rfl, rfl, (show (0 : Int) ≤ 3 by decide), ?_⟩
    have hw := cW_bnd hw
    refine ⟨_, rfl, _, _, rfl, rfl, (show (0 : Int) ≤ 3 by decide), ?_⟩
    have hw := cW_bnd hw
    refine ⟨_, rfl, _, _, rfl, rfl, _, rfl, _, rfl, _, rfl, rfl, rfl, G, _, _, _, _, rfl, S0.sG, (Rp.hide_nil (rp_mk_list (S0.bM _ _ h2031) (RpAll.mono S0.bM d2032))), cW_call hw (fun v2037 hw => ?_) (fun e he => hE e he)⟩
    obtain ⟨g2038, hw⟩ := cW_grd hw
    refine ⟨_, _, rfl, rfl, g2038, _, rfl, _, rfl, _, rfl, _, _, rfl, rfl, _, rfl, rfl, rfl, G, _, _, _, _, rfl, S0.sG, (Rp.hide_nil (rp_mk_list (S0.bM _ _ h2031) (RpAll.mono S0.bM d2032))), cW_call hw (fun v2039 hw => ?_) (fun e he => hE e he)⟩
    obtain ⟨g2040, hw⟩ := cW_grd hw
    refine ⟨_, _, rfl, rfl, g2040, _, _, rfl, rfl, ?_⟩
    have hw := cW_bnd hw
    refine ⟨_, rfl, _, _, rfl, rfl, _, rfl, _, rfl, _, rfl, _, _, rfl, rfl, rfl, rfl, G, _, _, _, _, rfl, S0.sG, (Rp.hide_nil (rp_mk_list (S0.bM _ _ h2031) (RpAll.mono S0.bM d2032))), cW_call hw (fun v2042 hw => ?_) (fun e he => hE e he)⟩
    obtain ⟨g2043, hw⟩ := cW_grd hw
    refine ⟨_, _, rfl, rfl, g2043, _, rfl, _, rfl, _, rfl, _, _, rfl, rfl, _, rfl, _, _, rfl, rfl, rfl, rfl, G, _, _, _, _, rfl, S0.sG, (Rp.hide_nil (rp_mk_list (S0.bM _ _ h2031) (RpAll.mono S0.bM d2032))), cW_call hw (fun v2044 hw => ?_) (fun e he => hE e he)⟩
    obtain ⟨g2045, hw⟩ := cW_grd hw
    refine ⟨_, _, rfl, rfl, g2045, _, _, rfl, rfl, ?_⟩
    have hw := cW_bnd hw
    obtain ⟨g2047, hw⟩ := cW_grd hw
    obtain ⟨g2048, hw⟩ := cW_grd hw
    refine ⟨_, rfl, _, _, rfl, rfl, _, rfl, _, _, rfl, rfl, g2047, _, rfl, _, rfl, _, _, rfl, rfl, g2048, _, _, rfl, rfl, _, _, rfl, rfl, _, _, rfl, rfl, (show (0 : Int) ≤ 6 by decide), ?_⟩
    have hw := cW_ok hw
    exact hK0 _ hw

abbrev N_law : List Str := ["script", "draws", "top", "plane", "kept", "cell", "place", "x", "y", "width", "height", "due", "actual", "spoilt", "row", "j", "i"]
theorem sc_law : FnScope N_law ["script"] (defScope s_law) := ⟨rfl, rfl, rfl, by decide +kernel, rfl, by decide +kernel, by decide +kernel⟩
theorem ok_law {f : Addr} {fd : FuncData} (F : FunD K "law" "law" (defArgs s_law) (defBody s_law) (defScope s_law) [] [] f fd) (T : Txt K mg AD) (c__law_draws : CalX P w K mg base 1 "_law_draws" (sp__law_draws K AD) pats__law_draws) (c__law_cell : CalX P w K mg base 1 "_law_cell" (sp__law_cell K AD) pats__law_cell) (c__law_plane : CalX P w K mg base 2 "_law_plane" (sp__law_plane K AD) pats__law_plane) (c__law_quarter : CalX P w K mg base 2 "_law_quarter" (sp__law_quarter K AD) pats__law_quarter) (c_quarter_area : CalX P w K mg base 3 "quarter_area" (sp_quarter_area K AD) pats_quarter_area) (c__law_eighth : CalX P w K mg base 2 "_law_eighth" (sp__law_eighth K AD) pats__law_eighth) (c_eighth_area : CalX P w K mg base 3 "eighth_area" (sp_eighth_area K AD) pats_eighth_area) : FnG P w K mg base CX0 4 f fd ["script"] (sp_law K AD) := by
  refine FnG.bodyN F sc_law (fun vs H Q E h => ?_) (fun cdv A_ outer s H vs Q E hr h => ?_)
  · obtain ⟨a_script, script, rfl, _⟩ := h
    rfl
  · obtain ⟨a_script, script', rfl, q_script, hw, k⟩ := h
    refine ⟨_, (pss_cons (ps_set (i := 1) sc_law.nd rfl (Or.inl rfl) (vx_callX c__law_draws pat__law_draws_0 (.head _) hr (by decide) takes0 rfl (pa_cons (vx_callX c__law_cell pat__law_cell_0 (.head _) hr (by decide) takes0 rfl (pa_cons (pv 0) (pa_cons pe_int pa_nil)) pk_nil) (pa_cons (pe_lst (pa_cons pe_int (pa_cons pe_int (pa_cons pe_int pa_nil)))) pa_nil)) pk_nil))
      (pss_cons (ps_set (i := 2) sc_law.nd rfl (Or.inr rfl) (pe_op op_sub (pe_op op_shlW pe_int (pe_op op_add pe_int (pe_ix (ix_listK (K := K)) (pv 1) pe_int (fun _ _ => rfl)))) pe_int))
      (pss_cons (ps_set (i := 3) sc_law.nd rfl (Or.inl rfl) (vx_callX c__law_plane pat__law_plane_0 (.head _) hr (by decide) takes0 rfl (pa_cons (vx_callX c__law_cell pat__law_cell_0 (.head _) hr (by decide) takes0 rfl (pa_cons (pv 0) (pa_cons pe_int pa_nil)) pk_nil) (pa_cons (pe_op op_add pe_int (pe_ix (ix_listK (K := K)) (pv 1) pe_int (fun _ _ => rfl))) (pa_cons (pe_op op_add pe_int (pe_ix (ix_listK (K := K)) (pv 1) pe_int (fun _ _ => rfl))) (pa_cons (pv 2) pa_nil)))) pk_nil))
      (pss_cons (ps_set (i := 4) sc_law.nd rfl (Or.inr rfl) (pe_lc (own := [("row", 14)]) (g := gName 14) (by rfl) sc_law.nd (pi_listK (K := K) (pv 3)) (blkOk_by (own := [("row", 14)]) (N := N_law) (sc := defScope s_law) (by decide +kernel)) (fun _ _ _ _ _ => (pg_name (i := 14) sc_law.nd rfl (Or.inl rfl))) (fun _ _ _ _ _ => pts_nil) (fun _ _ _ _ _ => (pe_callTy (call_listLK (K := K)) (by rfl) T.b_list (by decide +kernel) (pa_cons (pv 14) pa_nil)))))
      (pss_cons (ps_for PassesOwn.never rfl (pi_listK (K := K) (pe_slice (sl_listK (K := K)) (pe_op op_cat (pe_lst (pa_cons pe_int pa_nil)) (pe_slice (sl_listK (K := K)) (pv 0) (po_some pe_int) po_none)) po_none (po_some pe_int))) (pg_name (i := 5) sc_law.nd rfl (Or.inl rfl)) (pss_cons (ps_set (i := 6) sc_law.nd rfl (Or.inl rfl) (vx_callX c__law_draws pat__law_draws_0 (.head _) hr (by decide) takes0 rfl (pa_cons (pv 5) (pa_cons (pe_lst (pa_cons pe_int (pa_cons pe_int (pa_cons pe_int (pa_cons pe_int (pa_cons pe_int (pa_cons pe_int (pa_cons pe_int pa_nil)))))))) pa_nil)) pk_nil))
      (pss_cons (ps_set (i := 7) sc_law.nd rfl (Or.inr rfl) (pe_op op_sub (pe_ix (ix_listK (K := K)) (pv 6) pe_int (fun _ _ => rfl)) pe_int))
      (pss_cons (ps_set (i := 8) sc_law.nd rfl (Or.inr rfl) (pe_op op_sub (pe_ix (ix_listK (K := K)) (pv 6) pe_int (fun _ _ => rfl)) pe_int))
      (C8.pss_cut (ps_if (pt_cmp (pc_eqI (pe_ix (ix_listK (K := K)) (pv 6) pe_int (fun _ _ => rfl)) pe_int)) (pss_cons (ps_set (i := 7) sc_law.nd rfl (Or.inr rfl) (pe_op op_sub (pe_ix (ix_listK (K := K)) (pv 6) pe_int (fun _ _ => rfl)) pe_int))
      (pss_one (ps_set (i := 8) sc_law.nd rfl (Or.inr rfl) (pe_op op_sub (pe_ix (ix_listK (K := K)) (pv 6) pe_int (fun _ _ => rfl)) pe_int)))) pss_nil)
      (pss_cons (ps_set (i := 9) sc_law.nd rfl (Or.inr rfl) (pe_op op_add pe_int (pe_ix (ix_listK (K := K)) (pv 6) pe_int (fun _ _ => rfl))))
      (pss_cons (ps_set (i := 10) sc_law.nd rfl (Or.inl rfl) (pe_op op_add pe_int (pe_ix (ix_listK (K := K)) (pv 6) pe_int (fun _ _ => rfl))))
      (pss_cons (ps_setLc (i := 11) (y := "due") rfl sc_law.nd rfl rfl (sw_true rfl rfl rfl (by decide +kernel)) (own := [("j", 15)]) (g := gName 15) (pi_range1 rfl T.b_range (pa_cons (pv 10) pa_nil)) (blkOk_by (own := [("j", 15)]) (N := N_law) (sc := defScope s_law) (by decide +kernel)) (fun _ _ _ _ _ => (pg_name (i := 15) sc_law.nd rfl (Or.inr rfl))) (fun _ _ _ _ _ => pts_nil) (fun _ _ _ _ _ => (pe_lc (own := [("i", 16)]) (g := gName 16) (by rfl) sc_law.nd (pi_range1 rfl T.b_range (pa_cons (pv 9) pa_nil)) (blk_relabel (blkOk_by (own := [("i", 16)]) (N := N_law) (by decide +kernel))) (fun _ _ _ _ _ => (pg_name (i := 16) sc_law.nd rfl (Or.inl rfl))) (fun _ _ _ _ _ => pts_nil) (fun _ _ _ _ _ => (vx_callX c__law_quarter pat__law_quarter_0 (.head _) hr (by decide) takes0 rfl (pa_cons (pv 4) (pa_cons (pe_op op_add (pv 7) (pe_op op_mul pe_int (pv 16))) (pa_cons (pe_op op_add (pv 8) (pe_op op_mul pe_int (pv 15))) (pa_cons (pv 2) pa_nil)))) pk_nil)))))
      (pss_cons (ps_set (i := 12) sc_law.nd rfl (Or.inl rfl) (vx_callX c_quarter_area pat_quarter_area_0 (.head _) hr (by decide) takes0 rfl (pa_cons (pv 3) (pa_cons (pv 7) (pa_cons (pv 8) (pa_cons (pv 9) (pa_cons (pv 10) pa_nil))))) (pk_cons (pv 2) pk_nil)))
      (pss_cons (ps_if (PW.pt (pw_or (pt_not (pt_val (pe_callB call_isi (by rfl) T.b_isinstance (by decide +kernel) (pa_cons (pv 12) (pa_cons (pe_bltn (v := V.ty "list") (u := Value.type "list") (by rfl) T.b_list (by decide +kernel) rfl) pa_nil))))) (pw_or1 (pt_cmpR (op_neT (encOk_L (encOk_L encOk_int)) hr.units) (pv 12) (pv 11) (nomark _))))) (pss_one (ps_ret pe_bl)) pss_nil)
      (pss_cons (ps_setLc (i := 13) (y := "spoilt") rfl sc_law.nd rfl rfl (sw_true rfl rfl rfl (by decide +kernel)) (own := [("row", 14)]) (g := gName 14) (pi_listK (K := K) (pv 11)) (blkOk_by (own := [("row", 14)]) (N := N_law) (sc := defScope s_law) (by decide +kernel)) (fun _ _ _ _ _ => (pg_name (i := 14) sc_law.nd rfl (Or.inl rfl))) (fun _ _ _ _ _ => pts_nil) (fun _ _ _ _ _ => (pe_callTy (call_listLK (K := K)) (by rfl) T.b_list (by decide +kernel) (pa_cons (pv 14) pa_nil))))
      (pss_cons (ps_asg (pe_un un_neg pe_int) (pg_sub (pe_ix (ix_listK (K := K)) (pv 12) pe_int (fun _ _ => rfl)) pe_int set_list))
      (pss_cons (ps_asg (pe_un un_neg pe_int) (pg_sub (pe_ix (ix_listK (K := K)) (pv 13) pe_int (fun _ _ => rfl)) pe_int set_list))
      (pss_cons (ps_if (pt_cmpR (op_neT (encOk_L (encOk_L encOk_int)) hr.units) (pv 12) (pv 13) (nomark _)) (pss_one (ps_ret pe_bl)) pss_nil)
      (pss_cons (ps_setLc (i := 11) (y := "due") rfl sc_law.nd rfl rfl (sw_true rfl rfl rfl (by decide +kernel)) (own := [("j", 15)]) (g := gName 15) (pi_range1 rfl T.b_range (pa_cons (pv 10) pa_nil)) (blkOk_by (own := [("j", 15)]) (N := N_law) (sc := defScope s_law) (by decide +kernel)) (fun _ _ _ _ _ => (pg_name (i := 15) sc_law.nd rfl (Or.inr rfl))) (fun _ _ _ _ _ => pts_nil) (fun _ _ _ _ _ => (pe_lc (own := [("i", 16)]) (g := gName 16) (by rfl) sc_law.nd (pi_range1 rfl T.b_range (pa_cons (pv 9) pa_nil)) (blk_relabel (blkOk_by (own := [("i", 16)]) (N := N_law) (by decide +kernel))) (fun _ _ _ _ _ => (pg_name (i := 16) sc_law.nd rfl (Or.inl rfl))) (fun _ _ _ _ _ => pts_nil) (fun _ _ _ _ _ => (vx_callX c__law_eighth pat__law_eighth_0 (.head _) hr (by decide) takes0 rfl (pa_cons (pv 4) (pa_cons (pe_op op_add (pv 7) (pe_op op_mul pe_int (pv 16))) (pa_cons (pe_op op_add (pv 8) (pe_op op_mul pe_int (pv 15))) pa_nil))) pk_nil)))))
      (pss_cons (ps_set (i := 12) sc_law.nd rfl (Or.inl rfl) (vx_callX c_eighth_area pat_eighth_area_0 (.head _) hr (by decide) takes0 rfl (pa_cons (pv 3) (pa_cons (pv 7) (pa_cons (pv 8) (pa_cons (pv 9) (pa_cons (pv 10) pa_nil))))) (pk_cons (pv 2) pk_nil)))
      (pss_cons (ps_if (PW.pt (pw_or (pt_not (pt_val (pe_callB call_isi (by rfl) T.b_isinstance (by decide +kernel) (pa_cons (pv 12) (pa_cons (pe_bltn (v := V.ty "list") (u := Value.type "list") (by rfl) T.b_list (by decide +kernel) rfl) pa_nil))))) (pw_or (pt_cmpR (op_neT (encOk_L (encOk_L encOk_int)) hr.units) (pv 12) (pv 11) (nomark _)) (pw_or1 (pt_cmpR (op_neT (encOk_L (encOk_L encOk_int)) hr.units) (pv 3) (pv 4) (nomark _)))))) (pss_one (ps_ret pe_bl)) pss_nil)
      (pss_cons (ps_setLc (i := 13) (y := "spoilt") rfl sc_law.nd rfl rfl (sw_true rfl rfl rfl (by decide +kernel)) (own := [("row", 14)]) (g := gName 14) (pi_listK (K := K) (pv 11)) (blkOk_by (own := [("row", 14)]) (N := N_law) (sc := defScope s_law) (by decide +kernel)) (fun _ _ _ _ _ => (pg_name (i := 14) sc_law.nd rfl (Or.inl rfl))) (fun _ _ _ _ _ => pts_nil) (fun _ _ _ _ _ => (pe_callTy (call_listLK (K := K)) (by rfl) T.b_list (by decide +kernel) (pa_cons (pv 14) pa_nil))))
      (pss_cons (ps_asg (pe_un un_neg pe_int) (pg_sub (pe_ix (ix_listK (K := K)) (pv 12) (pe_un un_neg pe_int) (fun _ _ => rfl)) pe_int set_list))
      (pss_cons (ps_asg (pe_un un_neg pe_int) (pg_sub (pe_ix (ix_listK (K := K)) (pv 13) (pe_un un_neg pe_int) (fun _ _ => rfl)) pe_int set_list))
      (pss_cons (ps_if (pt_cmpR (op_neT (encOk_L (encOk_L encOk_int)) hr.units) (pv 12) (pv 13) (nomark _)) (pss_one (ps_ret pe_bl)) pss_nil)
      (pss_one (ps_if (PW.pt (pw_or (pt_cmpR (op_neT (encOk_L (encOk_L encOk_int)) hr.units) (pv 3) (pv 4) (nomark _)) (pw_or1 (pt_cmpR (op_neT (encOk_L (encOk_L encOk_int)) hr.units) (vx_callX c_eighth_area pat_eighth_area_0 (.head _) hr (by decide) takes0 rfl (pa_cons (pv 3) (pa_cons (pv 7) (pa_cons (pv 8) (pa_cons (pv 9) (pa_cons (pv 10) pa_nil))))) (pk_cons (pv 2) pk_nil)) (pv 11) (nomark _))))) (pss_one (ps_ret pe_bl)) pss_nil)))))))))))))))))))))))
      (pss_one (ps_ret pe_bl))))))), ?_⟩
    obtain ⟨KK, EE, hK0, hE, hw⟩ := cW_gen hw
    have S0 := Sep.start0 H
    unfold F_law at hw
    refine ⟨_, rfl, rfl, rfl, H, _, _, _, rfl, S0.sG, (S0.b0.seq q_script), cW_call hw (fun v2049 hw => ?_) (fun e he => (hE e he).elim)⟩
    refine ⟨(by show 3 ≤ sizeLine; decide), fun p2050 n2051 => ?_⟩
    generalize g2052 : upd H p2050 _ = H2053
    obtain ⟨e2054, h2055⟩ := gen_new n2051 g2052
    have h2056 : H2053 p2050 = some (.lst (([10, 10, 5] : (List Int)).map V.int)) := h2055
    have fr2057 := S0.free n2051
    have S2058 := S0.new n2051 e2054 h2056 fr2057
    refine ⟨rfl, rfl, H, _, _, _, rfl, S2058.sG, (hide_nil h2056), cW_call hw (fun v2059 hw p2062 H2060 n2063 e2061 h2064 => ?_) (fun e he => (hE e he).elim)⟩
    have h2065 : H2060 p2062 = some (.lst ((v2059 : (List Int)).map V.int)) := h2064
    have fr2066 := S2058.free n2063
    have S2067 := S2058.new n2063 e2061 h2065 fr2066
    obtain ⟨g2068, hw⟩ := cW_grd hw
    obtain ⟨g2069, hw⟩ := cW_grd hw
    refine ⟨_, rfl, _, _, _, _, rfl, rfl, (SqL.of h2065), (atI_map g2068), _, _, rfl, rfl, _, _, rfl, rfl, (shl_side g2069.1 g2069.2.1 g2069.2.2.1 g2069.2.2.2), _, _, rfl, rfl, ?_⟩
    have hw := cW_bnd hw
    refine ⟨_, rfl, rfl, rfl, H, _, _, _, rfl, S2067.sG, (S2067.b0.seq q_script), cW_call hw (fun v2071 hw => ?_) (fun e he => (hE e he).elim)⟩
    obtain ⟨g2072, hw⟩ := cW_grd hw
    obtain ⟨g2073, hw⟩ := cW_grd hw
    refine ⟨_, rfl, _, _, _, _, rfl, rfl, (SqL.of h2065), (atI_map g2072), _, _, rfl, rfl, _, rfl, _, _, _, _, rfl, rfl, (SqL.of h2065), (atI_map g2073), _, _, rfl, rfl, _, rfl, rfl, rfl, H, _, _, _, _, rfl, S2067.sG, cW_call hw (fun v2074 hw H2075 a2077 vs2078 L2079 G2080 n2081 nb2082 nd2083 e2076 eG2084 sG2085 hn2086 ga2087 gL2088 h2089 w2090 => ?_) (fun e he => (hE e he).elim)⟩
    have fr2091 := S2067.free n2081
    have S2092 : Sep _ _ _ _ H2075 (a2077 :: (L2079 ++ (p2062 :: (p2050 :: [])))) := Sep.steptree S2067 e2076 eG2084 sG2085 hn2086 (a2077 :: L2079) (all_cons ⟨n2081, ga2087, some_ne h2089⟩ (fun b hb => ⟨nb2082 b hb, gL2088 b hb, OwAll.there w2090 b hb⟩))
    obtain ⟨K2094, hK2095, hw⟩ := cW_push hw
    refine ⟨_, rfl, _, rfl, ⟨_, (SqL.of h2089)⟩, fun D2096 n2097 => lc_list (K := K) (a := a2077) (xs := vs2078) (fun i H' => ∃ (G' : Hp) (acc2099 : (List (List Int))) (vs2100 : List V) (L2098 : List Addr), Same G2080 G' ∧ Sep [] H H G' H' (D2096 :: (L2098 ++ (a2077 :: (p2062 :: (L2079 ++ []))))) ∧ H' a2077 = some (.lst (vs2078)) ∧ H' p2062 = some (.lst ((v2059 : (List Int)).map V.int)) ∧ H' D2096 = some (.lst vs2100) ∧ OwAll G' H' L2079 (vs2078) ((v2074 : (List (List Int))).map (oL oI)) ∧ OwAll G' H' L2098 vs2100 ((acc2099 : (List (List Int))).map (oL oI)) ∧ (∀ b ∈ L2098, H2075 b = none) ∧ (∀ b ∈ L2098, b ≠ D2096) ∧ Same H2075 H' ∧ cW (mapA (List.drop i (v2074)) acc2099 (fun x => noEr (F_law_c1  x))) K2094 EE) ?_ ?_ ?_ ?_⟩
    · generalize g2101 : upd H2075 D2096 _ = H2102
      obtain ⟨e2103, h2104⟩ := gen_new n2097 g2101
      have fr2105 := S2092.free n2097
      have S2106 := S2092.new n2097 e2103 h2104 fr2105
      have h2107 := (e2103 _ _ h2089)
      have h2108 := (e2103 _ _ (e2076 _ _ h2065))
      have w2109 : OwAll G2080 H2102 L2079 (vs2078) ((v2074 : (List (List Int))).map (oL oI)) := (OwAll.mono (Same.refl _) (keeps_same e2103) w2090)
      exact ⟨_, [], [], [], Same.refl _, (S2106.sub (all_cons (.head _) (all_app (L := []) all_nil (all_cons (.tail _ (.head _)) (all_cons (.tail _ (.tail _ (List.mem_append_right _ (.head _)))) (all_app ((fun b hb => (.tail _ (.tail _ (List.mem_append_left _ hb)))) : ∀ b ∈ L2079, b ∈ (D2096 :: (a2077 :: (L2079 ++ (p2062 :: (p2050 :: [])))))) all_nil)))))), h2107, h2108, h2104, w2109, OwAll.nil, all_nil, all_nil, e2103, hw⟩
    · intro i H2110 _ hw
      obtain ⟨G2113, acc2115, vs2116, L2118, eG2114, S2111, h2122, h2123, h2112, w2124, d2117, nb2119, nd2120, eo2121, hw⟩ := hw
      exact (SqL.of h2122)
    · intro i x H2125 hj hw
      obtain ⟨G2128, acc2130, vs2131, L2133, eG2129, S2126, h2137, h2138, h2127, w2139, d2132, nb2134, nd2135, eo2136, hw⟩ := hw
      obtain ⟨x2140, L2141, hx, w2142, hs2143⟩ := OwAll.turn w2139 hj
      obtain ⟨b2144, rfl, rfl, h2145⟩ := Ow.toInts w2142
      have hv2146 := hj
      have hx2147 := hx
      obtain ⟨z2148, hw⟩ := cW_mapA hx hw
      have hw := cW_noEr hw
      have hw : cW (F_law_c1  (x2140)) _ (fun _ => False) := hw
      unfold F_law_c1 at hw
      refine ⟨rfl, ?_⟩
      refine tyes_go ?_
      refine ⟨_, rfl, _, _, rfl, (SqL.of h2145), fun p2150 n2151 => ?_⟩
      generalize g2152 : upd H2125 p2150 _ = H2153
      obtain ⟨e2154, h2155⟩ := gen_new n2151 g2152
      have h2156 : H2153 p2150 = some (.lst ((x2140 : (List Int)).map V.int)) := h2155
      have fr2157 := S2126.free n2151
      have S2158 := S2126.new n2151 e2154 h2156 fr2157
      have w2159 : OwAll G2128 H2153 L2133 (vs2131) ((acc2130 : (List (List Int))).map (oL oI)) := (OwAll.mono (Same.refl _) (keeps_same e2154) d2132)
      have h2160 := (e2154 _ _ h2127)
      refine ⟨_, h2160, (app_len (OwAll.rpA w2159 (encO_L encO_I) S2158.sG) z2148), ?_⟩
      generalize g2161 : upd H2153 D2096 _ = H2162
      obtain ⟨x2163, h2164⟩ := gen_mut g2161
      have S2165 := S2158.mut1 x2163 (.tail _ (.head _)) h2164
      have hw := cW_ok hw
      have h2166 := (x2163 _ _ (e2154 _ _ h2137) (ne_of_none h2089 n2097))
      have h2167 := (x2163 _ _ (e2154 _ _ h2138) (ne_of_none (e2076 _ _ h2065) n2097))
      have w2168 : OwAll G2128 H2162 L2079 (vs2078) ((v2074 : (List (List Int))).map (oL oI)) := (OwAll.mono (Same.refl _) (keeps_mut x2163 ((there_ne (fun b_ hb_ => (S2092.ow b_ (((fun b hb => (.tail _ (List.mem_append_left _ hb))) : ∀ b ∈ L2079, b ∈ (a2077 :: (L2079 ++ (p2062 :: (p2050 :: []))))) b_ hb_)).2.1) n2097) : ∀ b ∈ L2079, b ≠ D2096)) (OwAll.mono (Same.refl _) (keeps_same e2154) w2139))
      exact ⟨_, (acc2130 ++ [x2140]), _, (L2133 ++ (p2150 :: ([] : List Addr))), eG2129, (S2165.sub (all_cons (.tail _ (.head _)) (all_app (all_app ((fun b hb => (.tail _ (.tail _ (List.mem_append_left _ hb)))) : ∀ b ∈ L2133, b ∈ (p2150 :: (D2096 :: (L2133 ++ (a2077 :: (p2062 :: (L2079 ++ []))))))) (all_cons (.head _) all_nil)) (all_cons (.tail _ (.tail _ (List.mem_append_right _ (.head _)))) (all_cons (.tail _ (.tail _ (List.mem_append_right _ (.tail _ (.head _))))) (all_app ((fun b hb => (.tail _ (.tail _ (List.mem_append_right _ (.tail _ (.tail _ (List.mem_append_left _ hb))))))) : ∀ b ∈ L2079, b ∈ (p2150 :: (D2096 :: (L2133 ++ (a2077 :: (p2062 :: (L2079 ++ []))))))) all_nil)))))), h2166, h2167, h2164, w2168, (OwAll.mono (Same.refl _) (keeps_mut x2163 ((all_app nd2135 (all_cons (ne_of_none h2127 n2151).symm all_nil)) : ∀ b ∈ (L2133 ++ (p2150 :: ([] : List Addr))), b ≠ D2096)) (OwAll.snocM w2159 (Ow.ints h2156) ((fun b hb => (nm_cons ((there_ne (fun b_ hb_ => (S2126.ow b_ (((fun b hb => (.tail _ (List.mem_append_left _ hb))) : ∀ b ∈ L2133, b ∈ (D2096 :: (L2133 ++ (a2077 :: (p2062 :: (L2079 ++ [])))))) b_ hb_)).2.1) n2151) b hb) nm_nil)) : ∀ b ∈ L2133, b ∉ (p2150 :: ([] : List Addr))))), ((all_app nb2134 (all_cons (none_of_same eo2136 n2151) all_nil)) : ∀ b ∈ (L2133 ++ (p2150 :: ([] : List Addr))), H2075 b = none), ((all_app nd2135 (all_cons (ne_of_none h2127 n2151).symm all_nil)) : ∀ b ∈ (L2133 ++ (p2150 :: ([] : List Addr))), b ≠ D2096), (same_mut (Same.trans eo2136 e2154) x2163 n2097), hw⟩
    intro H2169 hw
    obtain ⟨G2172, acc2174, vs2175, L2177, eG2173, S2170, h2181, h2182, h2171, w2183, d2176, nb2178, nd2179, eo2180, hw⟩ := hw
    have hw := hK2095 _ (cW_mapA0 (by rw [(OwAll.rpA w2183 (encO_L encO_I) S2170.sG).len, List.length_map]) hw)
    have fr2184 := S2092.free n2097
    refine ⟨(by show 1 ≤ sizeLine; decide), fun p2185 n2186 => ?_⟩
    generalize g2187 : upd H2169 p2185 _ = H2188
    obtain ⟨e2189, h2190⟩ := gen_new n2186 g2187
    have h2191 : H2188 p2185 = some (.lst (([0] : (List Int)).map V.int)) := h2190
    have fr2192 := S2170.free n2186
    have S2193 := S2170.new n2186 e2189 h2191 fr2192
    refine ⟨_, rfl, _, rfl, _, _, rfl, (S2193.b0.seq q_script), fun p2194 n2195 => ?_⟩
    generalize g2196 : upd H2188 p2194 _ = H2197
    obtain ⟨e2198, h2199⟩ := gen_new n2195 g2196
    have h2200 : H2197 p2194 = some (.lst ((cutL (script') (some (2)) none : (List Int)).map V.int)) := cut_map h2199
    have fr2201 := S2193.free n2195
    have S2202 := S2193.new n2195 e2198 h2200 fr2201
    obtain ⟨g2203, hw⟩ := cW_grd hw
    have h2204 := (e2198 _ _ h2191)
    refine ⟨_, _, _, _, rfl, rfl, h2204, h2200, (cat_lenM g2203), fun p2205 n2206 => ?_⟩
    generalize g2207 : upd H2197 p2205 _ = H2208
    obtain ⟨e2209, h2210⟩ := gen_new n2206 g2207
    have h2211 : H2208 p2205 = some (.lst ((([0]) ++ (cutL (script') (some (2)) none) : (List Int)).map V.int)) := cat_map h2210
    have fr2212 := S2202.free n2206
    have S2213 := S2202.new n2206 e2209 h2211 fr2212
    refine ⟨_, rfl, _, _, rfl, (SqL.of h2211), fun p2214 n2215 => ?_⟩
    generalize g2216 : upd H2208 p2214 _ = H2217
    obtain ⟨e2218, h2219⟩ := gen_new n2215 g2216
    have h2220 : H2217 p2214 = some (.lst ((cutL (([0]) ++ (cutL (script') (some (2)) none)) none (some (6)) : (List Int)).map V.int)) := cut_map h2219
    have fr2221 := S2213.free n2215
    have S2222 := S2213.new n2215 e2218 h2220 fr2221
    obtain ⟨K2226, hK2227, hw⟩ := cW_push hw
    refine ⟨_, rfl, ⟨_, (SqL.of h2220)⟩, for_list (K := K) (a := p2214) (xs := (cutL (([0]) ++ (cutL (script') (some (2)) none)) none (some (6)) : (List Int)).map V.int) (fun i σ H' => ∃ (u2228 : Option V) (u2229 : Option V) (u2230 : Option V) (u2231 : Option V) (u2232 : Option V) (u2233 : Option V) (u2234 : Option V) (u2235 : Option V) (u2236 : Option V) (G' : Hp), σ = [some (V.ref a_script), some (V.ref p2062), some (V.int (((1 * 2 ^ Int.toNat ((8 + (itD (v2059) (2))))) - 1))), some (V.ref a2077), some (V.ref D2096), u2228, u2229, u2230, u2231, u2232, u2233, u2234, u2235, u2236, none, none, none] ∧ Same G2172 G' ∧ Sep [] H H G' H' (p2062 :: (a2077 :: (D2096 :: (p2214 :: (L2079 ++ (L2177 ++ [])))))) ∧ H' p2062 = some (.lst ((v2059 : (List Int)).map V.int)) ∧ H' a2077 = some (.lst (vs2078)) ∧ H' D2096 = some (.lst (vs2175)) ∧ H' p2214 = some (.lst ((cutL (([0]) ++ (cutL (script') (some (2)) none)) none (some (6)) : (List Int)).map V.int)) ∧ OwAll G' H' L2079 (vs2078) ((v2074 : (List (List Int))).map (oL oI)) ∧ OwAll G' H' L2177 (vs2175) ((acc2174 : (List (List Int))).map (oL oI)) ∧ cW (forR (List.drop i (cutL (([0]) ++ (cutL (script') (some (2)) none)) none (some (6)))) () (fun s x => F_law_b2 (((1 * 2 ^ Int.toNat ((8 + (itD (v2059) (2))))) - 1)) (v2074) (acc2174)  x)) K2226 EE) ?_ ?_ ?_ ?_⟩
    · have h2237 := (e2218 _ _ (e2209 _ _ (e2198 _ _ (e2189 _ _ h2182))))
      have h2238 := (e2218 _ _ (e2209 _ _ (e2198 _ _ (e2189 _ _ h2181))))
      have h2239 := (e2218 _ _ (e2209 _ _ (e2198 _ _ (e2189 _ _ h2171))))
      have w2240 : OwAll G2172 H2217 L2079 (vs2078) ((v2074 : (List (List Int))).map (oL oI)) := (OwAll.mono (Same.refl _) (keeps_same e2218) (OwAll.mono (Same.refl _) (keeps_same e2209) (OwAll.mono (Same.refl _) (keeps_same e2198) (OwAll.mono (Same.refl _) (keeps_same e2189) w2183))))
      have w2241 : OwAll G2172 H2217 L2177 (vs2175) ((acc2174 : (List (List Int))).map (oL oI)) := (OwAll.mono (Same.refl _) (keeps_same e2218) (OwAll.mono (Same.refl _) (keeps_same e2209) (OwAll.mono (Same.refl _) (keeps_same e2198) (OwAll.mono (Same.refl _) (keeps_same e2189) d2176))))
      exact ⟨_, _, _, _, _, _, _, _, _, _, rfl, (Same.refl _), (S2222.sub (all_cons (.tail _ (.tail _ (.tail _ (.tail _ (.tail _ (List.mem_append_right _ (.tail _ (.head _)))))))) (all_cons (.tail _ (.tail _ (.tail _ (.tail _ (.tail _ (List.mem_append_right _ (.head _))))))) (all_cons (.tail _ (.tail _ (.tail _ (.tail _ (.head _))))) (all_cons (.head _) (all_app ((fun b hb => (.tail _ (.tail _ (.tail _ (.tail _ (.tail _ (List.mem_append_right _ (.tail _ (.tail _ (List.mem_append_left _ hb)))))))))) : ∀ b ∈ L2079, b ∈ (p2214 :: (p2205 :: (p2194 :: (p2185 :: (D2096 :: (L2177 ++ (a2077 :: (p2062 :: (L2079 ++ [])))))))))) (all_app ((fun b hb => (.tail _ (.tail _ (.tail _ (.tail _ (.tail _ (List.mem_append_left _ hb))))))) : ∀ b ∈ L2177, b ∈ (p2214 :: (p2205 :: (p2194 :: (p2185 :: (D2096 :: (L2177 ++ (a2077 :: (p2062 :: (L2079 ++ [])))))))))) all_nil))))))), h2237, h2238, h2239, h2220, w2240, w2241, hw⟩
    · intro i σ H2242 _ hw
      obtain ⟨u2228, u2229, u2230, u2231, u2232, u2233, u2234, u2235, u2236, G2250, rfl, eG2251, S2243, h2244, h2245, h2246, h2247, w2248, w2249, hw⟩ := hw
      exact (SqL.of h2247)
    · intro i x σ H2252 hj hw
      obtain ⟨u2228, u2229, u2230, u2231, u2232, u2233, u2234, u2235, u2236, G2260, rfl, eG2261, S2253, h2254, h2255, h2256, h2257, w2258, w2259, hw⟩ := hw
      obtain ⟨x2262, hx, rfl⟩ := map_get hj
      have hw := cW_forR hx hw
      have hw : cW (F_law_b2 (((1 * 2 ^ Int.toNat ((8 + (itD (v2059) (2))))) - 1)) (v2074) (acc2174)  (x2262)) _ EE := hw
      unfold F_law_b2 at hw
      obtain ⟨K2263, hK2264, hw⟩ := cW_name hw
      refine ⟨_, rfl, (by show 7 ≤ sizeLine; decide), fun p2266 n2267 => ?_⟩
      generalize g2268 : upd H2252 p2266 _ = H2269
      obtain ⟨e2270, h2271⟩ := gen_new n2267 g2268
      have h2272 : H2269 p2266 = some (.lst (([3, 120, 120, 5000, 5000, 8, 8] : (List Int)).map V.int)) := h2271
      have fr2273 := S2253.free n2267
      have S2274 := S2253.new n2267 e2270 h2272 fr2273
      refine ⟨rfl, rfl, G2260, _, _, _, rfl, S2274.sG, (hide_nil h2272), cW_call hw (fun v2275 hw p2278 H2276 n2279 e2277 h2280 => ?_) (fun e he => (hE e he).elim)⟩
      have h2281 : H2276 p2278 = some (.lst ((v2275 : (List Int)).map V.int)) := h2280
      have fr2282 := S2274.free n2279
      have S2283 := S2274.new n2279 e2277 h2281 fr2282
      obtain ⟨g2284, hw⟩ := cW_grd hw
      refine ⟨_, rfl, _, _, _, _, rfl, rfl, (SqL.of h2281), (atI_map g2284), _, _, rfl, rfl, ?_⟩
      have hw := cW_bnd hw
      obtain ⟨g2286, hw⟩ := cW_grd hw
      refine ⟨_, rfl, _, _, _, _, rfl, rfl, (SqL.of h2281), (atI_map g2286), _, _, rfl, rfl, ?_⟩
      have hw := cW_bnd hw
      refine ⟨fun σ H' => ∃ (x_2294 : Int) (y_2295 : Int) (G' : Hp), σ = [some (V.ref a_script), some (V.ref p2062), some (V.int (((1 * 2 ^ Int.toNat ((8 + (itD (v2059) (2))))) - 1))), some (V.ref a2077), some (V.ref D2096), some (V.int (x2262)), some (V.ref p2278), some (V.int x_2294), some (V.int y_2295), u2232, u2233, u2234, u2235, u2236, none, none, none] ∧ Same G2260 G' ∧ Sep [] H H G' H' (p2062 :: (a2077 :: (D2096 :: (p2278 :: (p2214 :: (L2079 ++ (L2177 ++ []))))))) ∧ H' p2062 = some (.lst ((v2059 : (List Int)).map V.int)) ∧ H' a2077 = some (.lst (vs2078)) ∧ H' D2096 = some (.lst (vs2175)) ∧ H' p2278 = some (.lst ((v2275 : (List Int)).map V.int)) ∧ H' p2214 = some (.lst ((cutL (([0]) ++ (cutL (script') (some (2)) none)) none (some (6)) : (List Int)).map V.int)) ∧ OwAll G' H' L2079 (vs2078) ((v2074 : (List (List Int))).map (oL oI)) ∧ OwAll G' H' L2177 (vs2175) ((acc2174 : (List (List Int))).map (oL oI)) ∧ cW (F_law_k3 (((1 * 2 ^ Int.toNat ((8 + (itD (v2059) (2))))) - 1)) (v2074) (acc2174) (v2275) x_2294 y_2295) K2263 EE, ?_, ?_⟩
      · obtain ⟨K2296, hK2297, hw⟩ := cW_push hw
        obtain ⟨g2298, hw⟩ := cW_grd hw
        refine ⟨_, rfl, _, _, _, _, rfl, rfl, (SqL.of h2281), (atI_map g2298), _, _, rfl, rfl, _, rfl, ?_⟩
        refine iteD (fun c2299 => ?_) (fun c2299 => ?_)
        · have hw := cW_pos c2299 hw
          obtain ⟨g2300, hw⟩ := cW_grd hw
          refine ⟨_, rfl, _, _, _, _, rfl, rfl, (SqL.of h2281), (atI_map g2300), _, _, rfl, rfl, ?_⟩
          have hw := cW_bnd hw
          obtain ⟨g2302, hw⟩ := cW_grd hw
          refine ⟨_, rfl, _, _, _, _, rfl, rfl, (SqL.of h2281), (atI_map g2302), _, _, rfl, rfl, ?_⟩
          have hw := cW_bnd hw
          have hw := cW_ok hw
          have hw := hK2297 _ hw
          have h2304 := (e2277 _ _ (e2270 _ _ h2254))
          have h2305 := (e2277 _ _ (e2270 _ _ h2255))
          have h2306 := (e2277 _ _ (e2270 _ _ h2256))
          have h2307 := (e2277 _ _ (e2270 _ _ h2257))
          have w2308 : OwAll G2260 H2276 L2079 (vs2078) ((v2074 : (List (List Int))).map (oL oI)) := (OwAll.mono (Same.refl _) (keeps_same e2277) (OwAll.mono (Same.refl _) (keeps_same e2270) w2258))
          have w2309 : OwAll G2260 H2276 L2177 (vs2175) ((acc2174 : (List (List Int))).map (oL oI)) := (OwAll.mono (Same.refl _) (keeps_same e2277) (OwAll.mono (Same.refl _) (keeps_same e2270) w2259))
          exact ⟨(((itD (v2275) (3)) - 2500)), (((itD (v2275) (4)) - 2500)), _, rfl, (Same.refl _), (S2283.sub (all_cons (.tail _ (.tail _ (.head _))) (all_cons (.tail _ (.tail _ (.tail _ (.head _)))) (all_cons (.tail _ (.tail _ (.tail _ (.tail _ (.head _))))) (all_cons (.head _) (all_cons (.tail _ (.tail _ (.tail _ (.tail _ (.tail _ (.head _)))))) (all_app ((fun b hb => (.tail _ (.tail _ (.tail _ (.tail _ (.tail _ (.tail _ (List.mem_append_left _ hb)))))))) : ∀ b ∈ L2079, b ∈ (p2278 :: (p2266 :: (p2062 :: (a2077 :: (D2096 :: (p2214 :: (L2079 ++ (L2177 ++ []))))))))) (all_app ((fun b hb => (.tail _ (.tail _ (.tail _ (.tail _ (.tail _ (.tail _ (List.mem_append_right _ (List.mem_append_left _ hb))))))))) : ∀ b ∈ L2177, b ∈ (p2278 :: (p2266 :: (p2062 :: (a2077 :: (D2096 :: (p2214 :: (L2079 ++ (L2177 ++ []))))))))) all_nil)))))))), h2304, h2305, h2306, h2281, h2307, w2308, w2309, hw⟩
        · have hw := cW_neg c2299 hw
          have hw := cW_ok hw
          have hw := hK2297 _ hw
          have h2310 := (e2277 _ _ (e2270 _ _ h2254))
          have h2311 := (e2277 _ _ (e2270 _ _ h2255))
          have h2312 := (e2277 _ _ (e2270 _ _ h2256))
          have h2313 := (e2277 _ _ (e2270 _ _ h2257))
          have w2314 : OwAll G2260 H2276 L2079 (vs2078) ((v2074 : (List (List Int))).map (oL oI)) := (OwAll.mono (Same.refl _) (keeps_same e2277) (OwAll.mono (Same.refl _) (keeps_same e2270) w2258))
          have w2315 : OwAll G2260 H2276 L2177 (vs2175) ((acc2174 : (List (List Int))).map (oL oI)) := (OwAll.mono (Same.refl _) (keeps_same e2277) (OwAll.mono (Same.refl _) (keeps_same e2270) w2259))
          exact ⟨(((itD (v2275) (1)) - 20)), (((itD (v2275) (2)) - 20)), _, rfl, (Same.refl _), (S2283.sub (all_cons (.tail _ (.tail _ (.head _))) (all_cons (.tail _ (.tail _ (.tail _ (.head _)))) (all_cons (.tail _ (.tail _ (.tail _ (.tail _ (.head _))))) (all_cons (.head _) (all_cons (.tail _ (.tail _ (.tail _ (.tail _ (.tail _ (.head _)))))) (all_app ((fun b hb => (.tail _ (.tail _ (.tail _ (.tail _ (.tail _ (.tail _ (List.mem_append_left _ hb)))))))) : ∀ b ∈ L2079, b ∈ (p2278 :: (p2266 :: (p2062 :: (a2077 :: (D2096 :: (p2214 :: (L2079 ++ (L2177 ++ []))))))))) (all_app ((fun b hb => (.tail _ (.tail _ (.tail _ (.tail _ (.tail _ (.tail _ (List.mem_append_right _ (List.mem_append_left _ hb))))))))) : ∀ b ∈ L2177, b ∈ (p2278 :: (p2266 :: (p2062 :: (a2077 :: (D2096 :: (p2214 :: (L2079 ++ (L2177 ++ []))))))))) all_nil)))))))), h2310, h2311, h2312, h2281, h2313, w2314, w2315, hw⟩
      · intro σ H2316 hw
        obtain ⟨x_2294, y_2295, G2325, rfl, eG2326, S2317, h2318, h2319, h2320, h2321, h2322, w2323, w2324, hw⟩ := hw
        unfold F_law_k3 at hw
        obtain ⟨g2327, hw⟩ := cW_grd hw
        refine ⟨_, rfl, _, _, _, _, rfl, rfl, (SqL.of h2321), (atI_map g2327), _, _, rfl, rfl, ?_⟩
        have hw := cW_bnd hw
        obtain ⟨g2329, hw⟩ := cW_grd hw
        refine ⟨_, rfl, _, _, _, _, rfl, rfl, (SqL.of h2321), (atI_map g2329), _, _, rfl, rfl, ?_⟩
        have hw := cW_bnd hw
        obtain ⟨g2331, hw⟩ := cW_grd hw
        obtain ⟨K2338, hK2339, hw⟩ := cW_push hw
        refine ⟨_, rfl, _, rfl, g2331.1, g2331.2, fun D2340 n2341 => lc_range (lo := 0) (n := Int.toNat ((1 + (itD (v2275) (6))))) (fun i H' => ∃ (G' : Hp) (acc2343 : (List (List Int))) (vs2344 : List V) (L2342 : List Addr), Same G2325 G' ∧ Sep [] H H G' H' (D2340 :: (L2342 ++ (a2077 :: (D2096 :: (p2062 :: (p2278 :: (p2214 :: (L2079 ++ (L2177 ++ []))))))))) ∧ H' a2077 = some (.lst (vs2078)) ∧ H' D2096 = some (.lst (vs2175)) ∧ H' p2062 = some (.lst ((v2059 : (List Int)).map V.int)) ∧ H' p2278 = some (.lst ((v2275 : (List Int)).map V.int)) ∧ H' p2214 = some (.lst ((cutL (([0]) ++ (cutL (script') (some (2)) none)) none (some (6)) : (List Int)).map V.int)) ∧ H' D2340 = some (.lst vs2344) ∧ OwAll G' H' L2079 (vs2078) ((v2074 : (List (List Int))).map (oL oI)) ∧ OwAll G' H' L2177 (vs2175) ((acc2174 : (List (List Int))).map (oL oI)) ∧ OwAll G' H' L2342 vs2344 ((acc2343 : (List (List Int))).map (oL oI)) ∧ (∀ b ∈ L2342, H2316 b = none) ∧ (∀ b ∈ L2342, b ≠ D2340) ∧ Same H2316 H' ∧ cW (mapA (List.drop i (rng (0) (Int.toNat ((1 + (itD (v2275) (6))))))) acc2343 (fun x => noEr (F_law_c4 (((1 * 2 ^ Int.toNat ((8 + (itD (v2059) (2))))) - 1)) (acc2174) (x_2294) (y_2295) ((1 + (itD (v2275) (5)))) x))) K2338 EE) ?_ ?_ ?_⟩
        · generalize g2345 : upd H2316 D2340 _ = H2346
          obtain ⟨e2347, h2348⟩ := gen_new n2341 g2345
          have fr2349 := S2317.free n2341
          have S2350 := S2317.new n2341 e2347 h2348 fr2349
          have h2351 := (e2347 _ _ h2319)
          have h2352 := (e2347 _ _ h2320)
          have h2353 := (e2347 _ _ h2318)
          have h2354 := (e2347 _ _ h2321)
          have h2355 := (e2347 _ _ h2322)
          have w2356 : OwAll G2325 H2346 L2079 (vs2078) ((v2074 : (List (List Int))).map (oL oI)) := (OwAll.mono (Same.refl _) (keeps_same e2347) w2323)
          have w2357 : OwAll G2325 H2346 L2177 (vs2175) ((acc2174 : (List (List Int))).map (oL oI)) := (OwAll.mono (Same.refl _) (keeps_same e2347) w2324)
          exact ⟨_, [], [], [], Same.refl _, (S2350.sub (all_cons (.head _) (all_app (L := []) all_nil (all_cons (.tail _ (.tail _ (.head _))) (all_cons (.tail _ (.tail _ (.tail _ (.head _)))) (all_cons (.tail _ (.head _)) (all_cons (.tail _ (.tail _ (.tail _ (.tail _ (.head _))))) (all_cons (.tail _ (.tail _ (.tail _ (.tail _ (.tail _ (.head _)))))) (all_app ((fun b hb => (.tail _ (.tail _ (.tail _ (.tail _ (.tail _ (.tail _ (List.mem_append_left _ hb)))))))) : ∀ b ∈ L2079, b ∈ (D2340 :: (p2062 :: (a2077 :: (D2096 :: (p2278 :: (p2214 :: (L2079 ++ (L2177 ++ []))))))))) (all_app ((fun b hb => (.tail _ (.tail _ (.tail _ (.tail _ (.tail _ (.tail _ (List.mem_append_right _ (List.mem_append_left _ hb))))))))) : ∀ b ∈ L2177, b ∈ (D2340 :: (p2062 :: (a2077 :: (D2096 :: (p2278 :: (p2214 :: (L2079 ++ (L2177 ++ []))))))))) all_nil)))))))))), h2351, h2352, h2353, h2354, h2355, h2348, w2356, w2357, OwAll.nil, all_nil, all_nil, e2347, hw⟩
        · intro i H2358 hi hw
          obtain ⟨G2361, acc2363, vs2364, L2366, eG2362, S2359, h2370, h2371, h2372, h2373, h2374, h2360, w2375, w2376, d2365, nb2367, nd2368, eo2369, hw⟩ := hw
          obtain ⟨z2377, hw⟩ := cW_mapA (rng_get hi) hw
          generalize (0 + (i : Int)) = x2378 at hw ⊢
          have hw := cW_noEr hw
          have hw : cW (F_law_c4 (((1 * 2 ^ Int.toNat ((8 + (itD (v2059) (2))))) - 1)) (acc2174) (x_2294) (y_2295) ((1 + (itD (v2275) (5)))) (x2378)) _ (fun _ => False) := hw
          unfold F_law_c4 at hw
          refine ⟨rfl, ?_⟩
          refine tyes_go ?_
          obtain ⟨g2380, hw⟩ := cW_grd hw
          obtain ⟨K2387, hK2388, hw⟩ := cW_push hw
          refine ⟨_, rfl, _, rfl, g2380.1, g2380.2, fun D2389 n2390 => lc_range (lo := 0) (n := Int.toNat ((1 + (itD (v2275) (5))))) (fun i2 H' => ∃ (G' : Hp) (acc2392 : (List Int)), Same G2361 G' ∧ Sep [] H H G' H' (D2389 :: (a2077 :: (D2096 :: (D2340 :: (p2062 :: (p2278 :: (p2214 :: (L2079 ++ (L2177 ++ (L2366 ++ [])))))))))) ∧ H' a2077 = some (.lst (vs2078)) ∧ H' D2096 = some (.lst (vs2175)) ∧ H' D2340 = some (.lst (vs2364)) ∧ H' p2062 = some (.lst ((v2059 : (List Int)).map V.int)) ∧ H' p2278 = some (.lst ((v2275 : (List Int)).map V.int)) ∧ H' p2214 = some (.lst ((cutL (([0]) ++ (cutL (script') (some (2)) none)) none (some (6)) : (List Int)).map V.int)) ∧ H' D2389 = some (.lst ((acc2392 : (List Int)).map V.int)) ∧ OwAll G' H' L2079 (vs2078) ((v2074 : (List (List Int))).map (oL oI)) ∧ OwAll G' H' L2177 (vs2175) ((acc2174 : (List (List Int))).map (oL oI)) ∧ OwAll G' H' L2366 (vs2364) ((acc2363 : (List (List Int))).map (oL oI)) ∧ Same H2358 H' ∧ cW (mapA (List.drop i2 (rng (0) (Int.toNat ((1 + (itD (v2275) (5))))))) acc2392 (fun x => noEr (F_law_c5 (((1 * 2 ^ Int.toNat ((8 + (itD (v2059) (2))))) - 1)) (acc2174) (x_2294) (y_2295) (x2378) x))) K2387 (fun _ => False)) ?_ ?_ ?_⟩
          · generalize g2394 : upd H2358 D2389 _ = H2395
            obtain ⟨e2396, h2397⟩ := gen_new n2390 g2394
            have fr2398 := S2359.free n2390
            have S2399 := S2359.new n2390 e2396 h2397 fr2398
            have h2400 := (e2396 _ _ h2370)
            have h2401 := (e2396 _ _ h2371)
            have h2402 := (e2396 _ _ h2360)
            have h2403 := (e2396 _ _ h2372)
            have h2404 := (e2396 _ _ h2373)
            have h2405 := (e2396 _ _ h2374)
            have w2406 : OwAll G2361 H2395 L2079 (vs2078) ((v2074 : (List (List Int))).map (oL oI)) := (OwAll.mono (Same.refl _) (keeps_same e2396) w2375)
            have w2407 : OwAll G2361 H2395 L2177 (vs2175) ((acc2174 : (List (List Int))).map (oL oI)) := (OwAll.mono (Same.refl _) (keeps_same e2396) w2376)
            have w2408 : OwAll G2361 H2395 L2366 (vs2364) ((acc2363 : (List (List Int))).map (oL oI)) := (OwAll.mono (Same.refl _) (keeps_same e2396) d2365)
            exact ⟨_, [], Same.refl _, (S2399.sub (all_cons (.head _) (all_cons (.tail _ (.tail _ (List.mem_append_right _ (.head _)))) (all_cons (.tail _ (.tail _ (List.mem_append_right _ (.tail _ (.head _))))) (all_cons (.tail _ (.head _)) (all_cons (.tail _ (.tail _ (List.mem_append_right _ (.tail _ (.tail _ (.head _)))))) (all_cons (.tail _ (.tail _ (List.mem_append_right _ (.tail _ (.tail _ (.tail _ (.head _))))))) (all_cons (.tail _ (.tail _ (List.mem_append_right _ (.tail _ (.tail _ (.tail _ (.tail _ (.head _)))))))) (all_app ((fun b hb => (.tail _ (.tail _ (List.mem_append_right _ (.tail _ (.tail _ (.tail _ (.tail _ (.tail _ (List.mem_append_left _ hb)))))))))) : ∀ b ∈ L2079, b ∈ (D2389 :: (D2340 :: (L2366 ++ (a2077 :: (D2096 :: (p2062 :: (p2278 :: (p2214 :: (L2079 ++ (L2177 ++ []))))))))))) (all_app ((fun b hb => (.tail _ (.tail _ (List.mem_append_right _ (.tail _ (.tail _ (.tail _ (.tail _ (.tail _ (List.mem_append_right _ (List.mem_append_left _ hb))))))))))) : ∀ b ∈ L2177, b ∈ (D2389 :: (D2340 :: (L2366 ++ (a2077 :: (D2096 :: (p2062 :: (p2278 :: (p2214 :: (L2079 ++ (L2177 ++ []))))))))))) (all_app ((fun b hb => (.tail _ (.tail _ (List.mem_append_left _ hb)))) : ∀ b ∈ L2366, b ∈ (D2389 :: (D2340 :: (L2366 ++ (a2077 :: (D2096 :: (p2062 :: (p2278 :: (p2214 :: (L2079 ++ (L2177 ++ []))))))))))) all_nil))))))))))), h2400, h2401, h2402, h2403, h2404, h2405, h2397, w2406, w2407, w2408, e2396, hw⟩
          · intro i2 H2409 hi hw
            obtain ⟨G2412, acc2414, eG2413, S2410, h2421, h2422, h2423, h2424, h2425, h2426, h2411, w2427, w2428, w2429, eo2420, hw⟩ := hw
            obtain ⟨z2430, hw⟩ := cW_mapA (rng_get hi) hw
            generalize (0 + (i2 : Int)) = x2431 at hw ⊢
            have hw := cW_noEr hw
            have hw : cW (F_law_c5 (((1 * 2 ^ Int.toNat ((8 + (itD (v2059) (2))))) - 1)) (acc2174) (x_2294) (y_2295) (x2378) (x2431)) _ (fun _ => False) := hw
            unfold F_law_c5 at hw
            refine ⟨rfl, ?_⟩
            refine tyes_go ?_
            refine ⟨_, rfl, _, rfl, _, rfl, _, _, rfl, rfl, (.inl ⟨by decide, by decide⟩), _, _, rfl, rfl, _, rfl, _, rfl, _, _, rfl, rfl, (.inl ⟨by decide, by decide⟩), _, _, rfl, rfl, _, rfl, rfl, rfl, G2412, _, _, _, _, _, rfl, S2410.sG, (Rp.hide_nil (rp_mk_list h2422 (OwAll.rpA w2428 (encO_L encO_I) S2410.sG))), cW_call hw (fun v2433 hw H2434 e2435 => ?_) (fun e he => he.elim)⟩
            have S2436 := S2410.same e2435
            have h2437 := (e2435 _ _ h2411)
            refine ⟨_, h2437, (app_lenM z2430), ?_⟩
            generalize g2438 : upd H2434 D2389 _ = H2439
            obtain ⟨x2440, h2441⟩ := gen_mut g2438
            have S2442 := S2436.mut1 x2440 (.head _) h2441
            have hw := cW_ok hw
            have h2443 := (x2440 _ _ (e2435 _ _ h2421) (ne_of_none h2370 n2390))
            have h2444 := (x2440 _ _ (e2435 _ _ h2422) (ne_of_none h2371 n2390))
            have h2445 := (x2440 _ _ (e2435 _ _ h2423) (ne_of_none h2360 n2390))
            have h2446 := (x2440 _ _ (e2435 _ _ h2424) (ne_of_none h2372 n2390))
            have h2447 := (x2440 _ _ (e2435 _ _ h2425) (ne_of_none h2373 n2390))
            have h2448 := (x2440 _ _ (e2435 _ _ h2426) (ne_of_none h2374 n2390))
            have w2449 : OwAll G2412 H2439 L2079 (vs2078) ((v2074 : (List (List Int))).map (oL oI)) := (OwAll.mono (Same.refl _) (keeps_mut x2440 ((there_ne (fun b_ hb_ => (S2359.ow b_ (((fun b hb => (.tail _ (List.mem_append_right _ (.tail _ (.tail _ (.tail _ (.tail _ (.tail _ (List.mem_append_left _ hb))))))))) : ∀ b ∈ L2079, b ∈ (D2340 :: (L2366 ++ (a2077 :: (D2096 :: (p2062 :: (p2278 :: (p2214 :: (L2079 ++ (L2177 ++ [])))))))))) b_ hb_)).2.1) n2390) : ∀ b ∈ L2079, b ≠ D2389)) (OwAll.mono (Same.refl _) (keeps_same e2435) w2427))
            have w2450 : OwAll G2412 H2439 L2177 (vs2175) ((acc2174 : (List (List Int))).map (oL oI)) := (OwAll.mono (Same.refl _) (keeps_mut x2440 ((there_ne (fun b_ hb_ => (S2359.ow b_ (((fun b hb => (.tail _ (List.mem_append_right _ (.tail _ (.tail _ (.tail _ (.tail _ (.tail _ (List.mem_append_right _ (List.mem_append_left _ hb)))))))))) : ∀ b ∈ L2177, b ∈ (D2340 :: (L2366 ++ (a2077 :: (D2096 :: (p2062 :: (p2278 :: (p2214 :: (L2079 ++ (L2177 ++ [])))))))))) b_ hb_)).2.1) n2390) : ∀ b ∈ L2177, b ≠ D2389)) (OwAll.mono (Same.refl _) (keeps_same e2435) w2428))
            have w2451 : OwAll G2412 H2439 L2366 (vs2364) ((acc2363 : (List (List Int))).map (oL oI)) := (OwAll.mono (Same.refl _) (keeps_mut x2440 ((there_ne (fun b_ hb_ => (S2359.ow b_ (((fun b hb => (.tail _ (List.mem_append_left _ hb))) : ∀ b ∈ L2366, b ∈ (D2340 :: (L2366 ++ (a2077 :: (D2096 :: (p2062 :: (p2278 :: (p2214 :: (L2079 ++ (L2177 ++ [])))))))))) b_ hb_)).2.1) n2390) : ∀ b ∈ L2366, b ≠ D2389)) (OwAll.mono (Same.refl _) (keeps_same e2435) w2429))
            exact ⟨_, (acc2414 ++ [v2433]), eG2413, S2442, h2443, h2444, h2445, h2446, h2447, h2448, (snoc_map h2441), w2449, w2450, w2451, (same_mut (Same.trans eo2420 e2435) x2440 n2390), hw⟩
          intro H2452 hw
          obtain ⟨G2455, acc2457, eG2456, S2453, h2464, h2465, h2466, h2467, h2468, h2469, h2454, w2470, w2471, w2472, eo2463, hw⟩ := hw
          have hw := hK2388 _ (cW_mapA0 (rng_len _ _).symm hw)
          have fr2473 := S2359.free n2390
          refine ⟨_, h2466, (app_len (OwAll.rpA w2472 (encO_L encO_I) S2453.sG) z2377), ?_⟩
          generalize g2474 : upd H2452 D2340 _ = H2475
          obtain ⟨x2476, h2477⟩ := gen_mut g2474
          have S2478 := S2453.mut1 x2476 (.tail _ (.tail _ (.tail _ (.head _)))) h2477
          have hw := cW_ok hw
          have h2479 := (x2476 _ _ h2464 (ne_of_none h2319 n2341))
          have h2480 := (x2476 _ _ h2465 (ne_of_none h2320 n2341))
          have h2481 := (x2476 _ _ h2467 (ne_of_none h2318 n2341))
          have h2482 := (x2476 _ _ h2468 (ne_of_none h2321 n2341))
          have h2483 := (x2476 _ _ h2469 (ne_of_none h2322 n2341))
          have w2484 : OwAll G2455 H2475 L2079 (vs2078) ((v2074 : (List (List Int))).map (oL oI)) := (OwAll.mono (Same.refl _) (keeps_mut x2476 ((there_ne (fun b_ hb_ => (S2317.ow b_ (((fun b hb => (.tail _ (.tail _ (.tail _ (.tail _ (.tail _ (List.mem_append_left _ hb))))))) : ∀ b ∈ L2079, b ∈ (p2062 :: (a2077 :: (D2096 :: (p2278 :: (p2214 :: (L2079 ++ (L2177 ++ [])))))))) b_ hb_)).2.1) n2341) : ∀ b ∈ L2079, b ≠ D2340)) w2470)
          have w2485 : OwAll G2455 H2475 L2177 (vs2175) ((acc2174 : (List (List Int))).map (oL oI)) := (OwAll.mono (Same.refl _) (keeps_mut x2476 ((there_ne (fun b_ hb_ => (S2317.ow b_ (((fun b hb => (.tail _ (.tail _ (.tail _ (.tail _ (.tail _ (List.mem_append_right _ (List.mem_append_left _ hb)))))))) : ∀ b ∈ L2177, b ∈ (p2062 :: (a2077 :: (D2096 :: (p2278 :: (p2214 :: (L2079 ++ (L2177 ++ [])))))))) b_ hb_)).2.1) n2341) : ∀ b ∈ L2177, b ≠ D2340)) w2471)
          exact ⟨_, (acc2363 ++ [acc2457]), _, (L2366 ++ (D2389 :: ([] : List Addr))), (Same.trans eG2362 eG2456), (S2478.sub (all_cons (.tail _ (.tail _ (.tail _ (.head _)))) (all_app (all_app ((fun b hb => (.tail _ (.tail _ (.tail _ (.tail _ (.tail _ (.tail _ (.tail _ (List.mem_append_right _ (List.mem_append_right _ (List.mem_append_left _ hb))))))))))) : ∀ b ∈ L2366, b ∈ (D2389 :: (a2077 :: (D2096 :: (D2340 :: (p2062 :: (p2278 :: (p2214 :: (L2079 ++ (L2177 ++ (L2366 ++ []))))))))))) (all_cons (.head _) all_nil)) (all_cons (.tail _ (.head _)) (all_cons (.tail _ (.tail _ (.head _))) (all_cons (.tail _ (.tail _ (.tail _ (.tail _ (.head _))))) (all_cons (.tail _ (.tail _ (.tail _ (.tail _ (.tail _ (.head _)))))) (all_cons (.tail _ (.tail _ (.tail _ (.tail _ (.tail _ (.tail _ (.head _))))))) (all_app ((fun b hb => (.tail _ (.tail _ (.tail _ (.tail _ (.tail _ (.tail _ (.tail _ (List.mem_append_left _ hb))))))))) : ∀ b ∈ L2079, b ∈ (D2389 :: (a2077 :: (D2096 :: (D2340 :: (p2062 :: (p2278 :: (p2214 :: (L2079 ++ (L2177 ++ (L2366 ++ []))))))))))) (all_app ((fun b hb => (.tail _ (.tail _ (.tail _ (.tail _ (.tail _ (.tail _ (.tail _ (List.mem_append_right _ (List.mem_append_left _ hb)))))))))) : ∀ b ∈ L2177, b ∈ (D2389 :: (a2077 :: (D2096 :: (D2340 :: (p2062 :: (p2278 :: (p2214 :: (L2079 ++ (L2177 ++ (L2366 ++ []))))))))))) all_nil)))))))))), h2479, h2480, h2481, h2482, h2483, h2477, w2484, w2485, (OwAll.mono (Same.refl _) (keeps_mut x2476 ((all_app nd2368 (all_cons (ne_of_none h2360 n2390).symm all_nil)) : ∀ b ∈ (L2366 ++ (D2389 :: ([] : List Addr))), b ≠ D2340)) (OwAll.snocM w2472 (Ow.ints h2454) ((fun b hb => (nm_cons ((there_ne (fun b_ hb_ => (S2359.ow b_ (((fun b hb => (.tail _ (List.mem_append_left _ hb))) : ∀ b ∈ L2366, b ∈ (D2340 :: (L2366 ++ (a2077 :: (D2096 :: (p2062 :: (p2278 :: (p2214 :: (L2079 ++ (L2177 ++ [])))))))))) b_ hb_)).2.1) n2390) b hb) nm_nil)) : ∀ b ∈ L2366, b ∉ (D2389 :: ([] : List Addr))))), ((all_app nb2367 (all_cons (none_of_same eo2369 n2390) all_nil)) : ∀ b ∈ (L2366 ++ (D2389 :: ([] : List Addr))), H2316 b = none), ((all_app nd2368 (all_cons (ne_of_none h2360 n2390).symm all_nil)) : ∀ b ∈ (L2366 ++ (D2389 :: ([] : List Addr))), b ≠ D2340), (same_mut (Same.trans eo2369 eo2463) x2476 n2341), hw⟩
        intro H2486 hw
        obtain ⟨G2489, acc2491, vs2492, L2494, eG2490, S2487, h2498, h2499, h2500, h2501, h2502, h2488, w2503, w2504, d2493, nb2495, nd2496, eo2497, hw⟩ := hw
        have hw := hK2339 _ (cW_mapA0 (rng_len _ _).symm hw)
        have fr2505 := S2317.free n2341
        refine ⟨_, rfl, _, rfl, _, rfl, _, rfl, _, rfl, _, rfl, rfl, rfl, G2489, _, _, _, _, _, _, _, rfl, S2487.sG, (Rp.hide_nil (rp_mk_list h2498 (OwAll.rpA w2503 (encO_L encO_I) S2487.sG))), cW_call hw (fun v2506 hw H2507 a2509 vs2510 L2511 G2512 n2513 nb2514 nd2515 e2508 eG2516 sG2517 hn2518 ga2519 gL2520 h2521 w2522 => ?_) (fun e he => (hE e he).elim)⟩
        have fr2523 := S2487.free n2513
        have S2524 : Sep _ _ _ _ H2507 (a2509 :: (L2511 ++ (D2340 :: (L2494 ++ (a2077 :: (D2096 :: (p2062 :: (p2278 :: (p2214 :: (L2079 ++ (L2177 ++ []))))))))))) := Sep.steptree S2487 e2508 eG2516 sG2517 hn2518 (a2509 :: L2511) (all_cons ⟨n2513, ga2519, some_ne h2521⟩ (fun b hb => ⟨nb2514 b hb, gL2520 b hb, OwAll.there w2522 b hb⟩))
        refine ⟨_, rfl, _, _, _, _, _, rfl, (.ty _), (.base (.lst h2521)), rfl, _, rfl, ?_⟩
        refine iteF ?_
        have h2525 := (e2508 _ _ h2488)
        have w2526 : OwAll G2512 H2507 L2494 (vs2492) ((acc2491 : (List (List Int))).map (oL oI)) := (OwAll.mono eG2516 keeps_refl (OwAll.mono (Same.refl _) (keeps_same e2508) d2493))
        refine ⟨_, rfl, _, rfl, _, _, (rp_mk_list h2521 (OwAll.rpA w2522 (encO_L encO_I) S2524.sG)), (rp_mk_list h2525 (OwAll.rpA w2526 (encO_L encO_I) S2524.sG)), _, rfl, ?_⟩
        refine iteN (fun c2527 => ?_) (fun c2527 => ?_)
        · have hw := cW_neg c2527 hw
          have hw := cW_ok hw
          have hw := hK2264 (.rt _) hw
          have hw := hK2227 (.rt _) hw
          have hw := cW_ok hw
          exact eq_bl (k _) (hK0 _ hw).symm
        · have hw := cW_pos c2527 hw
          obtain ⟨K2529, hK2530, hw⟩ := cW_push hw
          refine ⟨_, rfl, _, rfl, ⟨_, (SqL.of h2525)⟩, fun D2531 n2532 => lc_list (K := K) (a := D2340) (xs := vs2492) (fun i H' => ∃ (G' : Hp) (acc2534 : (List (List Int))) (vs2535 : List V) (L2533 : List Addr), Same G2512 G' ∧ Sep [] H H G' H' (D2531 :: (L2533 ++ (a2077 :: (D2096 :: (D2340 :: (a2509 :: (p2062 :: (p2278 :: (p2214 :: (L2079 ++ (L2177 ++ (L2494 ++ (L2511 ++ []))))))))))))) ∧ H' a2077 = some (.lst (vs2078)) ∧ H' D2096 = some (.lst (vs2175)) ∧ H' D2340 = some (.lst (vs2492)) ∧ H' a2509 = some (.lst (vs2510)) ∧ H' p2062 = some (.lst ((v2059 : (List Int)).map V.int)) ∧ H' p2278 = some (.lst ((v2275 : (List Int)).map V.int)) ∧ H' p2214 = some (.lst ((cutL (([0]) ++ (cutL (script') (some (2)) none)) none (some (6)) : (List Int)).map V.int)) ∧ H' D2531 = some (.lst vs2535) ∧ OwAll G' H' L2079 (vs2078) ((v2074 : (List (List Int))).map (oL oI)) ∧ OwAll G' H' L2177 (vs2175) ((acc2174 : (List (List Int))).map (oL oI)) ∧ OwAll G' H' L2494 (vs2492) ((acc2491 : (List (List Int))).map (oL oI)) ∧ OwAll G' H' L2511 (vs2510) ((v2506 : (List (List Int))).map (oL oI)) ∧ OwAll G' H' L2533 vs2535 ((acc2534 : (List (List Int))).map (oL oI)) ∧ (∀ b ∈ L2533, H2507 b = none) ∧ (∀ b ∈ L2533, b ≠ D2531) ∧ Same H2507 H' ∧ cW (mapA (List.drop i (acc2491)) acc2534 (fun x => noEr (F_law_c6  x))) K2529 EE) ?_ ?_ ?_ ?_⟩
          · generalize g2536 : upd H2507 D2531 _ = H2537
            obtain ⟨e2538, h2539⟩ := gen_new n2532 g2536
            have fr2540 := S2524.free n2532
            have S2541 := S2524.new n2532 e2538 h2539 fr2540
            have h2542 := (e2538 _ _ (e2508 _ _ h2498))
            have h2543 := (e2538 _ _ (e2508 _ _ h2499))
            have h2544 := (e2538 _ _ h2525)
            have h2545 := (e2538 _ _ h2521)
            have h2546 := (e2538 _ _ (e2508 _ _ h2500))
            have h2547 := (e2538 _ _ (e2508 _ _ h2501))
            have h2548 := (e2538 _ _ (e2508 _ _ h2502))
            have w2549 : OwAll G2512 H2537 L2079 (vs2078) ((v2074 : (List (List Int))).map (oL oI)) := (OwAll.mono eG2516 keeps_refl (OwAll.mono (Same.refl _) (keeps_same e2538) (OwAll.mono (Same.refl _) (keeps_same e2508) w2503)))
            have w2550 : OwAll G2512 H2537 L2177 (vs2175) ((acc2174 : (List (List Int))).map (oL oI)) := (OwAll.mono eG2516 keeps_refl (OwAll.mono (Same.refl _) (keeps_same e2538) (OwAll.mono (Same.refl _) (keeps_same e2508) w2504)))
            have w2551 : OwAll G2512 H2537 L2494 (vs2492) ((acc2491 : (List (List Int))).map (oL oI)) := (OwAll.mono (Same.refl _) (keeps_same e2538) w2526)
            have w2552 : OwAll G2512 H2537 L2511 (vs2510) ((v2506 : (List (List Int))).map (oL oI)) := (OwAll.mono (Same.refl _) (keeps_same e2538) w2522)
            exact ⟨_, [], [], [], Same.refl _, (S2541.sub (all_cons (.head _) (all_app (L := []) all_nil (all_cons (.tail _ (.tail _ (List.mem_append_right _ (.tail _ (List.mem_append_right _ (.head _)))))) (all_cons (.tail _ (.tail _ (List.mem_append_right _ (.tail _ (List.mem_append_right _ (.tail _ (.head _))))))) (all_cons (.tail _ (.tail _ (List.mem_append_right _ (.head _)))) (all_cons (.tail _ (.head _)) (all_cons (.tail _ (.tail _ (List.mem_append_right _ (.tail _ (List.mem_append_right _ (.tail _ (.tail _ (.head _)))))))) (all_cons (.tail _ (.tail _ (List.mem_append_right _ (.tail _ (List.mem_append_right _ (.tail _ (.tail _ (.tail _ (.head _))))))))) (all_cons (.tail _ (.tail _ (List.mem_append_right _ (.tail _ (List.mem_append_right _ (.tail _ (.tail _ (.tail _ (.tail _ (.head _)))))))))) (all_app ((fun b hb => (.tail _ (.tail _ (List.mem_append_right _ (.tail _ (List.mem_append_right _ (.tail _ (.tail _ (.tail _ (.tail _ (.tail _ (List.mem_append_left _ hb)))))))))))) : ∀ b ∈ L2079, b ∈ (D2531 :: (a2509 :: (L2511 ++ (D2340 :: (L2494 ++ (a2077 :: (D2096 :: (p2062 :: (p2278 :: (p2214 :: (L2079 ++ (L2177 ++ []))))))))))))) (all_app ((fun b hb => (.tail _ (.tail _ (List.mem_append_right _ (.tail _ (List.mem_append_right _ (.tail _ (.tail _ (.tail _ (.tail _ (.tail _ (List.mem_append_right _ (List.mem_append_left _ hb))))))))))))) : ∀ b ∈ L2177, b ∈ (D2531 :: (a2509 :: (L2511 ++ (D2340 :: (L2494 ++ (a2077 :: (D2096 :: (p2062 :: (p2278 :: (p2214 :: (L2079 ++ (L2177 ++ []))))))))))))) (all_app ((fun b hb => (.tail _ (.tail _ (List.mem_append_right _ (.tail _ (List.mem_append_left _ hb)))))) : ∀ b ∈ L2494, b ∈ (D2531 :: (a2509 :: (L2511 ++ (D2340 :: (L2494 ++ (a2077 :: (D2096 :: (p2062 :: (p2278 :: (p2214 :: (L2079 ++ (L2177 ++ []))))))))))))) (all_app ((fun b hb => (.tail _ (.tail _ (List.mem_append_left _ hb)))) : ∀ b ∈ L2511, b ∈ (D2531 :: (a2509 :: (L2511 ++ (D2340 :: (L2494 ++ (a2077 :: (D2096 :: (p2062 :: (p2278 :: (p2214 :: (L2079 ++ (L2177 ++ []))))))))))))) all_nil)))))))))))))), h2542, h2543, h2544, h2545, h2546, h2547, h2548, h2539, w2549, w2550, w2551, w2552, OwAll.nil, all_nil, all_nil, e2538, hw⟩
          · intro i H2553 _ hw
            obtain ⟨G2556, acc2558, vs2559, L2561, eG2557, S2554, h2565, h2566, h2567, h2568, h2569, h2570, h2571, h2555, w2572, w2573, w2574, w2575, d2560, nb2562, nd2563, eo2564, hw⟩ := hw
            exact (SqL.of h2567)
          · intro i x H2576 hj hw
            obtain ⟨G2579, acc2581, vs2582, L2584, eG2580, S2577, h2588, h2589, h2590, h2591, h2592, h2593, h2594, h2578, w2595, w2596, w2597, w2598, d2583, nb2585, nd2586, eo2587, hw⟩ := hw
            obtain ⟨x2599, L2600, hx, w2601, hs2602⟩ := OwAll.turn w2597 hj
            obtain ⟨b2603, rfl, rfl, h2604⟩ := Ow.toInts w2601
            have hv2605 := hj
            have hx2606 := hx
            obtain ⟨z2607, hw⟩ := cW_mapA hx hw
            have hw := cW_noEr hw
            have hw : cW (F_law_c6  (x2599)) _ (fun _ => False) := hw
            unfold F_law_c6 at hw
            refine ⟨rfl, ?_⟩
            refine tyes_go ?_
            refine ⟨_, rfl, _, _, rfl, (SqL.of h2604), fun p2609 n2610 => ?_⟩
            generalize g2611 : upd H2576 p2609 _ = H2612
            obtain ⟨e2613, h2614⟩ := gen_new n2610 g2611
            have h2615 : H2612 p2609 = some (.lst ((x2599 : (List Int)).map V.int)) := h2614
            have fr2616 := S2577.free n2610
            have S2617 := S2577.new n2610 e2613 h2615 fr2616
            have w2618 : OwAll G2579 H2612 L2584 (vs2582) ((acc2581 : (List (List Int))).map (oL oI)) := (OwAll.mono (Same.refl _) (keeps_same e2613) d2583)
            have h2619 := (e2613 _ _ h2578)
            refine ⟨_, h2619, (app_len (OwAll.rpA w2618 (encO_L encO_I) S2617.sG) z2607), ?_⟩
            generalize g2620 : upd H2612 D2531 _ = H2621
            obtain ⟨x2622, h2623⟩ := gen_mut g2620
            have S2624 := S2617.mut1 x2622 (.tail _ (.head _)) h2623
            have hw := cW_ok hw
            have h2625 := (x2622 _ _ (e2613 _ _ h2588) (ne_of_none (e2508 _ _ h2498) n2532))
            have h2626 := (x2622 _ _ (e2613 _ _ h2589) (ne_of_none (e2508 _ _ h2499) n2532))
            have h2627 := (x2622 _ _ (e2613 _ _ h2590) (ne_of_none h2525 n2532))
            have h2628 := (x2622 _ _ (e2613 _ _ h2591) (ne_of_none h2521 n2532))
            have h2629 := (x2622 _ _ (e2613 _ _ h2592) (ne_of_none (e2508 _ _ h2500) n2532))
            have h2630 := (x2622 _ _ (e2613 _ _ h2593) (ne_of_none (e2508 _ _ h2501) n2532))
            have h2631 := (x2622 _ _ (e2613 _ _ h2594) (ne_of_none (e2508 _ _ h2502) n2532))
            have w2632 : OwAll G2579 H2621 L2079 (vs2078) ((v2074 : (List (List Int))).map (oL oI)) := (OwAll.mono (Same.refl _) (keeps_mut x2622 ((there_ne (fun b_ hb_ => (S2524.ow b_ (((fun b hb => (.tail _ (List.mem_append_right _ (.tail _ (List.mem_append_right _ (.tail _ (.tail _ (.tail _ (.tail _ (.tail _ (List.mem_append_left _ hb))))))))))) : ∀ b ∈ L2079, b ∈ (a2509 :: (L2511 ++ (D2340 :: (L2494 ++ (a2077 :: (D2096 :: (p2062 :: (p2278 :: (p2214 :: (L2079 ++ (L2177 ++ [])))))))))))) b_ hb_)).2.1) n2532) : ∀ b ∈ L2079, b ≠ D2531)) (OwAll.mono (Same.refl _) (keeps_same e2613) w2595))
            have w2633 : OwAll G2579 H2621 L2177 (vs2175) ((acc2174 : (List (List Int))).map (oL oI)) := (OwAll.mono (Same.refl _) (keeps_mut x2622 ((there_ne (fun b_ hb_ => (S2524.ow b_ (((fun b hb => (.tail _ (List.mem_append_right _ (.tail _ (List.mem_append_right _ (.tail _ (.tail _ (.tail _ (.tail _ (.tail _ (List.mem_append_right _ (List.mem_append_left _ hb)))))))))))) : ∀ b ∈ L2177, b ∈ (a2509 :: (L2511 ++ (D2340 :: (L2494 ++ (a2077 :: (D2096 :: (p2062 :: (p2278 :: (p2214 :: (L2079 ++ (L2177 ++ [])))))))))))) b_ hb_)).2.1) n2532) : ∀ b ∈ L2177, b ≠ D2531)) (OwAll.mono (Same.refl _) (keeps_same e2613) w2596))
            have w2634 : OwAll G2579 H2621 L2494 (vs2492) ((acc2491 : (List (List Int))).map (oL oI)) := (OwAll.mono (Same.refl _) (keeps_mut x2622 ((there_ne (fun b_ hb_ => (S2524.ow b_ (((fun b hb => (.tail _ (List.mem_append_right _ (.tail _ (List.mem_append_left _ hb))))) : ∀ b ∈ L2494, b ∈ (a2509 :: (L2511 ++ (D2340 :: (L2494 ++ (a2077 :: (D2096 :: (p2062 :: (p2278 :: (p2214 :: (L2079 ++ (L2177 ++ [])))))))))))) b_ hb_)).2.1) n2532) : ∀ b ∈ L2494, b ≠ D2531)) (OwAll.mono (Same.refl _) (keeps_same e2613) w2597))
            have w2635 : OwAll G2579 H2621 L2511 (vs2510) ((v2506 : (List (List Int))).map (oL oI)) := (OwAll.mono (Same.refl _) (keeps_mut x2622 ((there_ne (fun b_ hb_ => (S2524.ow b_ (((fun b hb => (.tail _ (List.mem_append_left _ hb))) : ∀ b ∈ L2511, b ∈ (a2509 :: (L2511 ++ (D2340 :: (L2494 ++ (a2077 :: (D2096 :: (p2062 :: (p2278 :: (p2214 :: (L2079 ++ (L2177 ++ [])))))))))))) b_ hb_)).2.1) n2532) : ∀ b ∈ L2511, b ≠ D2531)) (OwAll.mono (Same.refl _) (keeps_same e2613) w2598))
            exact ⟨_, (acc2581 ++ [x2599]), _, (L2584 ++ (p2609 :: ([] : List Addr))), eG2580, (S2624.sub (all_cons (.tail _ (.head _)) (all_app (all_app ((fun b hb => (.tail _ (.tail _ (List.mem_append_left _ hb)))) : ∀ b ∈ L2584, b ∈ (p2609 :: (D2531 :: (L2584 ++ (a2077 :: (D2096 :: (D2340 :: (a2509 :: (p2062 :: (p2278 :: (p2214 :: (L2079 ++ (L2177 ++ (L2494 ++ (L2511 ++ []))))))))))))))) (all_cons (.head _) all_nil)) (all_cons (.tail _ (.tail _ (List.mem_append_right _ (.head _)))) (all_cons (.tail _ (.tail _ (List.mem_append_right _ (.tail _ (.head _))))) (all_cons (.tail _ (.tail _ (List.mem_append_right _ (.tail _ (.tail _ (.head _)))))) (all_cons (.tail _ (.tail _ (List.mem_append_right _ (.tail _ (.tail _ (.tail _ (.head _))))))) (all_cons (.tail _ (.tail _ (List.mem_append_right _ (.tail _ (.tail _ (.tail _ (.tail _ (.head _)))))))) (all_cons (.tail _ (.tail _ (List.mem_append_right _ (.tail _ (.tail _ (.tail _ (.tail _ (.tail _ (.head _))))))))) (all_cons (.tail _ (.tail _ (List.mem_append_right _ (.tail _ (.tail _ (.tail _ (.tail _ (.tail _ (.tail _ (.head _)))))))))) (all_app ((fun b hb => (.tail _ (.tail _ (List.mem_append_right _ (.tail _ (.tail _ (.tail _ (.tail _ (.tail _ (.tail _ (.tail _ (List.mem_append_left _ hb)))))))))))) : ∀ b ∈ L2079, b ∈ (p2609 :: (D2531 :: (L2584 ++ (a2077 :: (D2096 :: (D2340 :: (a2509 :: (p2062 :: (p2278 :: (p2214 :: (L2079 ++ (L2177 ++ (L2494 ++ (L2511 ++ []))))))))))))))) (all_app ((fun b hb => (.tail _ (.tail _ (List.mem_append_right _ (.tail _ (.tail _ (.tail _ (.tail _ (.tail _ (.tail _ (.tail _ (List.mem_append_right _ (List.mem_append_left _ hb))))))))))))) : ∀ b ∈ L2177, b ∈ (p2609 :: (D2531 :: (L2584 ++ (a2077 :: (D2096 :: (D2340 :: (a2509 :: (p2062 :: (p2278 :: (p2214 :: (L2079 ++ (L2177 ++ (L2494 ++ (L2511 ++ []))))))))))))))) (all_app ((fun b hb => (.tail _ (.tail _ (List.mem_append_right _ (.tail _ (.tail _ (.tail _ (.tail _ (.tail _ (.tail _ (.tail _ (List.mem_append_right _ (List.mem_append_right _ (List.mem_append_left _ hb)))))))))))))) : ∀ b ∈ L2494, b ∈ (p2609 :: (D2531 :: (L2584 ++ (a2077 :: (D2096 :: (D2340 :: (a2509 :: (p2062 :: (p2278 :: (p2214 :: (L2079 ++ (L2177 ++ (L2494 ++ (L2511 ++ []))))))))))))))) (all_app ((fun b hb => (.tail _ (.tail _ (List.mem_append_right _ (.tail _ (.tail _ (.tail _ (.tail _ (.tail _ (.tail _ (.tail _ (List.mem_append_right _ (List.mem_append_right _ (List.mem_append_right _ (List.mem_append_left _ hb))))))))))))))) : ∀ b ∈ L2511, b ∈ (p2609 :: (D2531 :: (L2584 ++ (a2077 :: (D2096 :: (D2340 :: (a2509 :: (p2062 :: (p2278 :: (p2214 :: (L2079 ++ (L2177 ++ (L2494 ++ (L2511 ++ []))))))))))))))) all_nil)))))))))))))), h2625, h2626, h2627, h2628, h2629, h2630, h2631, h2623, w2632, w2633, w2634, w2635, (OwAll.mono (Same.refl _) (keeps_mut x2622 ((all_app nd2586 (all_cons (ne_of_none h2578 n2610).symm all_nil)) : ∀ b ∈ (L2584 ++ (p2609 :: ([] : List Addr))), b ≠ D2531)) (OwAll.snocM w2618 (Ow.ints h2615) ((fun b hb => (nm_cons ((there_ne (fun b_ hb_ => (S2577.ow b_ (((fun b hb => (.tail _ (List.mem_append_left _ hb))) : ∀ b ∈ L2584, b ∈ (D2531 :: (L2584 ++ (a2077 :: (D2096 :: (D2340 :: (a2509 :: (p2062 :: (p2278 :: (p2214 :: (L2079 ++ (L2177 ++ (L2494 ++ (L2511 ++ [])))))))))))))) b_ hb_)).2.1) n2610) b hb) nm_nil)) : ∀ b ∈ L2584, b ∉ (p2609 :: ([] : List Addr))))), ((all_app nb2585 (all_cons (none_of_same eo2587 n2610) all_nil)) : ∀ b ∈ (L2584 ++ (p2609 :: ([] : List Addr))), H2507 b = none), ((all_app nd2586 (all_cons (ne_of_none h2578 n2610).symm all_nil)) : ∀ b ∈ (L2584 ++ (p2609 :: ([] : List Addr))), b ≠ D2531), (same_mut (Same.trans eo2587 e2613) x2622 n2532), hw⟩
          intro H2636 hw
          obtain ⟨G2639, acc2641, vs2642, L2644, eG2640, S2637, h2648, h2649, h2650, h2651, h2652, h2653, h2654, h2638, w2655, w2656, w2657, w2658, d2643, nb2645, nd2646, eo2647, hw⟩ := hw
          have hw := hK2530 _ (cW_mapA0 (by rw [(OwAll.rpA w2657 (encO_L encO_I) S2637.sG).len, List.length_map]) hw)
          have fr2659 := S2524.free n2532
          obtain ⟨g2660, hw⟩ := cW_grd hw
          obtain ⟨v2661, L2662, a2663, w2664, hs2665, up2666, gr2667⟩ := OwAll.partM (k := 0) w2658 g2660
          obtain ⟨b2668, rfl, rfl, h2669⟩ := Ow.toInts w2664
          obtain ⟨g2670, hw⟩ := cW_grd hw
          refine ⟨_, rfl, _, rfl, _, _, _, _, rfl, rfl, (SqL.of h2651), a2663, _, _, _, _, rfl, rfl, h2669, (ixN_map g2670), ?_⟩
          generalize g2671 : upd H2636 b2668 _ = H2672
          obtain ⟨x2673, h2674⟩ := gen_mut g2671
          have h2675 : H2672 b2668 = some (.lst ((setL ((itD (v2506) (0))) (0) ((-1)) : (List Int)).map V.int)) := set_map h2674
          have S2676 := S2637.mut1 x2673 ((((fun b hb => (.tail _ (List.mem_append_right _ (.tail _ (.tail _ (.tail _ (.tail _ (.tail _ (.tail _ (.tail _ (List.mem_append_right _ (List.mem_append_right _ (List.mem_append_right _ (List.mem_append_left _ hb)))))))))))))) : ∀ b ∈ L2511, b ∈ (D2531 :: (L2644 ++ (a2077 :: (D2096 :: (D2340 :: (a2509 :: (p2062 :: (p2278 :: (p2214 :: (L2079 ++ (L2177 ++ (L2494 ++ (L2511 ++ [])))))))))))))) : ∀ b ∈ L2511, b ∈ (D2531 :: (L2644 ++ (a2077 :: (D2096 :: (D2340 :: (a2509 :: (p2062 :: (p2278 :: (p2214 :: (L2079 ++ (L2177 ++ (L2494 ++ (L2511 ++ [])))))))))))))) _ (hs2665 _ List.mem_cons_self)) h2675
          have w2677 : OwAll G2639 H2672 L2511 (vs2510) ((setL (v2506) (0) (setL ((itD (v2506) (0))) (0) ((-1))) : (List (List Int))).map (oL oI)) := upd_tree up2666 x2673 List.mem_cons_self (Ow.ints h2675)
          have hw := cW_bnd hw
          obtain ⟨g2679, hw⟩ := cW_grd hw
          have w2680 : OwAll G2639 H2672 L2644 (vs2642) ((acc2641 : (List (List Int))).map (oL oI)) := (OwAll.mono (Same.refl _) (keeps_mut x2673 ((fun b hb z => (fun b hb => ((new_nl nb2645 (fun b_ hb_ => (S2524.ow b_ (((fun b hb => (.tail _ (List.mem_append_left _ hb))) : ∀ b ∈ L2511, b ∈ (a2509 :: (L2511 ++ (D2340 :: (L2494 ++ (a2077 :: (D2096 :: (p2062 :: (p2278 :: (p2214 :: (L2079 ++ (L2177 ++ [])))))))))))) b_ hb_)).2.1)) b hb)) b hb (z ▸ (hs2665 _ List.mem_cons_self))) : ∀ b ∈ L2644, b ≠ b2668)) d2643)
          obtain ⟨v2681, L2682, a2683, w2684, hs2685, up2686, gr2687⟩ := OwAll.partM (k := 0) w2680 g2679
          have h2688 := (x2673 _ _ h2638 ((there_ne (fun b_ hb_ => (S2524.ow b_ (((fun b hb => (.tail _ (List.mem_append_left _ hb))) : ∀ b ∈ L2511, b ∈ (a2509 :: (L2511 ++ (D2340 :: (L2494 ++ (a2077 :: (D2096 :: (p2062 :: (p2278 :: (p2214 :: (L2079 ++ (L2177 ++ [])))))))))))) b_ hb_)).2.1) n2532) _ (hs2665 _ List.mem_cons_self)).symm)
          obtain ⟨b2689, rfl, rfl, h2690⟩ := Ow.toInts w2684
          obtain ⟨g2691, hw⟩ := cW_grd hw
          refine ⟨_, rfl, _, rfl, _, _, _, _, rfl, rfl, (SqL.of h2688), a2683, _, _, _, _, rfl, rfl, h2690, (ixN_map g2691), ?_⟩
          generalize g2692 : upd H2672 b2689 _ = H2693
          obtain ⟨x2694, h2695⟩ := gen_mut g2692
          have h2696 : H2693 b2689 = some (.lst ((setL ((itD (acc2641) (0))) (0) ((-1)) : (List Int)).map V.int)) := set_map h2695
          have S2697 := S2676.mut1 x2694 ((((fun b hb => (.tail _ (List.mem_append_left _ hb))) : ∀ b ∈ L2644, b ∈ (D2531 :: (L2644 ++ (a2077 :: (D2096 :: (D2340 :: (a2509 :: (p2062 :: (p2278 :: (p2214 :: (L2079 ++ (L2177 ++ (L2494 ++ (L2511 ++ [])))))))))))))) : ∀ b ∈ L2644, b ∈ (D2531 :: (L2644 ++ (a2077 :: (D2096 :: (D2340 :: (a2509 :: (p2062 :: (p2278 :: (p2214 :: (L2079 ++ (L2177 ++ (L2494 ++ (L2511 ++ [])))))))))))))) _ (hs2685 _ List.mem_cons_self)) h2696
          have w2698 : OwAll G2639 H2693 L2644 (vs2642) ((setL (acc2641) (0) (setL ((itD (acc2641) (0))) (0) ((-1))) : (List (List Int))).map (oL oI)) := upd_tree up2686 x2694 List.mem_cons_self (Ow.ints h2696)
          have hw := cW_bnd hw
          have h2700 := (x2694 _ _ (x2673 _ _ h2651 (nd2515 _ (hs2665 _ List.mem_cons_self)).symm) ((new_ne2 nb2645 (S2524.ow _ (.head _)).2.1) _ (hs2685 _ List.mem_cons_self)).symm)
          have w2701 : OwAll G2639 H2693 L2511 (vs2510) ((setL (v2506) (0) (setL ((itD (v2506) (0))) (0) ((-1))) : (List (List Int))).map (oL oI)) := (OwAll.mono (Same.refl _) (keeps_mut x2694 ((fun b hb z => (fun b hb => ((nl_symm (new_nl nb2645 (fun b_ hb_ => (S2524.ow b_ (((fun b hb => (.tail _ (List.mem_append_left _ hb))) : ∀ b ∈ L2511, b ∈ (a2509 :: (L2511 ++ (D2340 :: (L2494 ++ (a2077 :: (D2096 :: (p2062 :: (p2278 :: (p2214 :: (L2079 ++ (L2177 ++ [])))))))))))) b_ hb_)).2.1))) b hb)) b hb (z ▸ (hs2685 _ List.mem_cons_self))) : ∀ b ∈ L2511, b ≠ b2689)) w2677)
          have h2702 := (x2694 _ _ h2688 (nd2646 _ (hs2685 _ List.mem_cons_self)).symm)
          refine ⟨_, rfl, _, rfl, _, _, (rp_mk_list h2700 (OwAll.rpA w2701 (encO_L encO_I) S2697.sG)), (rp_mk_list h2702 (OwAll.rpA w2698 (encO_L encO_I) S2697.sG)), _, rfl, ?_⟩
          refine iteN (fun c2703 => ?_) (fun c2703 => ?_)
          · have hw := cW_neg c2703 hw
            have hw := cW_ok hw
            have hw := hK2264 (.rt _) hw
            have hw := hK2227 (.rt _) hw
            have hw := cW_ok hw
            exact eq_bl (k _) (hK0 _ hw).symm
          · have hw := cW_pos c2703 hw
            obtain ⟨g2704, hw⟩ := cW_grd hw
            obtain ⟨K2710, hK2711, hw⟩ := cW_push hw
            refine ⟨_, rfl, _, rfl, g2704.1, g2704.2, fun D2712 n2713 => lc_range (lo := 0) (n := Int.toNat ((1 + (itD (v2275) (6))))) (fun i H' => ∃ (G' : Hp) (acc2715 : (List (List Int))) (vs2716 : List V) (L2714 : List Addr), Same G2639 G' ∧ Sep [] H H G' H' (D2712 :: (L2714 ++ (a2077 :: (D2096 :: (D2340 :: (a2509 :: (D2531 :: (p2062 :: (p2278 :: (p2214 :: (L2079 ++ (L2177 ++ (L2494 ++ (L2511 ++ (L2644 ++ []))))))))))))))) ∧ H' a2077 = some (.lst (vs2078)) ∧ H' D2096 = some (.lst (vs2175)) ∧ H' D2340 = some (.lst (vs2492)) ∧ H' a2509 = some (.lst (vs2510)) ∧ H' D2531 = some (.lst (vs2642)) ∧ H' p2062 = some (.lst ((v2059 : (List Int)).map V.int)) ∧ H' p2278 = some (.lst ((v2275 : (List Int)).map V.int)) ∧ H' p2214 = some (.lst ((cutL (([0]) ++ (cutL (script') (some (2)) none)) none (some (6)) : (List Int)).map V.int)) ∧ H' D2712 = some (.lst vs2716) ∧ OwAll G' H' L2079 (vs2078) ((v2074 : (List (List Int))).map (oL oI)) ∧ OwAll G' H' L2177 (vs2175) ((acc2174 : (List (List Int))).map (oL oI)) ∧ OwAll G' H' L2494 (vs2492) ((acc2491 : (List (List Int))).map (oL oI)) ∧ OwAll G' H' L2511 (vs2510) ((setL (v2506) (0) (setL ((itD (v2506) (0))) (0) ((-1))) : (List (List Int))).map (oL oI)) ∧ OwAll G' H' L2644 (vs2642) ((setL (acc2641) (0) (setL ((itD (acc2641) (0))) (0) ((-1))) : (List (List Int))).map (oL oI)) ∧ OwAll G' H' L2714 vs2716 ((acc2715 : (List (List Int))).map (oL oI)) ∧ (∀ b ∈ L2714, H2693 b = none) ∧ (∀ b ∈ L2714, b ≠ D2712) ∧ Same H2693 H' ∧ cW (mapA (List.drop i (rng (0) (Int.toNat ((1 + (itD (v2275) (6))))))) acc2715 (fun x => noEr (F_law_c7 (acc2174) (x_2294) (y_2295) ((1 + (itD (v2275) (5)))) x))) K2710 EE) ?_ ?_ ?_⟩
            · generalize g2717 : upd H2693 D2712 _ = H2718
              obtain ⟨e2719, h2720⟩ := gen_new n2713 g2717
              have fr2721 := S2697.free n2713
              have S2722 := S2697.new n2713 e2719 h2720 fr2721
              have h2723 := (e2719 _ _ (x2694 _ _ (x2673 _ _ h2648 ((new_ne2 nb2514 (S2487.ow _ (.tail _ (List.mem_append_right _ (.head _)))).2.1) _ (hs2665 _ List.mem_cons_self)).symm) ((new_ne2 nb2645 (S2524.ow _ (.tail _ (List.mem_append_right _ (.tail _ (List.mem_append_right _ (.head _)))))).2.1) _ (hs2685 _ List.mem_cons_self)).symm))
              have h2724 := (e2719 _ _ (x2694 _ _ (x2673 _ _ h2649 ((new_ne2 nb2514 (S2487.ow _ (.tail _ (List.mem_append_right _ (.tail _ (.head _))))).2.1) _ (hs2665 _ List.mem_cons_self)).symm) ((new_ne2 nb2645 (S2524.ow _ (.tail _ (List.mem_append_right _ (.tail _ (List.mem_append_right _ (.tail _ (.head _))))))).2.1) _ (hs2685 _ List.mem_cons_self)).symm))
              have h2725 := (e2719 _ _ (x2694 _ _ (x2673 _ _ h2650 ((new_ne2 nb2514 (S2487.ow _ (.head _)).2.1) _ (hs2665 _ List.mem_cons_self)).symm) ((new_ne2 nb2645 (S2524.ow _ (.tail _ (List.mem_append_right _ (.head _)))).2.1) _ (hs2685 _ List.mem_cons_self)).symm))
              have h2726 := (e2719 _ _ h2700)
              have h2727 := (e2719 _ _ h2702)
              have h2728 := (e2719 _ _ (x2694 _ _ (x2673 _ _ h2652 ((new_ne2 nb2514 (S2487.ow _ (.tail _ (List.mem_append_right _ (.tail _ (.tail _ (.head _)))))).2.1) _ (hs2665 _ List.mem_cons_self)).symm) ((new_ne2 nb2645 (S2524.ow _ (.tail _ (List.mem_append_right _ (.tail _ (List.mem_append_right _ (.tail _ (.tail _ (.head _)))))))).2.1) _ (hs2685 _ List.mem_cons_self)).symm))
              have h2729 := (e2719 _ _ (x2694 _ _ (x2673 _ _ h2653 ((new_ne2 nb2514 (S2487.ow _ (.tail _ (List.mem_append_right _ (.tail _ (.tail _ (.tail _ (.head _))))))).2.1) _ (hs2665 _ List.mem_cons_self)).symm) ((new_ne2 nb2645 (S2524.ow _ (.tail _ (List.mem_append_right _ (.tail _ (List.mem_append_right _ (.tail _ (.tail _ (.tail _ (.head _))))))))).2.1) _ (hs2685 _ List.mem_cons_self)).symm))
              have h2730 := (e2719 _ _ (x2694 _ _ (x2673 _ _ h2654 ((new_ne2 nb2514 (S2487.ow _ (.tail _ (List.mem_append_right _ (.tail _ (.tail _ (.tail _ (.tail _ (.head _)))))))).2.1) _ (hs2665 _ List.mem_cons_self)).symm) ((new_ne2 nb2645 (S2524.ow _ (.tail _ (List.mem_append_right _ (.tail _ (List.mem_append_right _ (.tail _ (.tail _ (.tail _ (.tail _ (.head _)))))))))).2.1) _ (hs2685 _ List.mem_cons_self)).symm))
              have w2731 : OwAll G2639 H2718 L2079 (vs2078) ((v2074 : (List (List Int))).map (oL oI)) := (OwAll.mono (Same.refl _) (keeps_same e2719) (OwAll.mono (Same.refl _) (keeps_mut x2694 ((fun b hb z => (fun b hb => ((nl_symm (new_nl nb2645 (fun b_ hb_ => (S2524.ow b_ (((fun b hb => (.tail _ (List.mem_append_right _ (.tail _ (List.mem_append_right _ (.tail _ (.tail _ (.tail _ (.tail _ (.tail _ (List.mem_append_left _ hb))))))))))) : ∀ b ∈ L2079, b ∈ (a2509 :: (L2511 ++ (D2340 :: (L2494 ++ (a2077 :: (D2096 :: (p2062 :: (p2278 :: (p2214 :: (L2079 ++ (L2177 ++ [])))))))))))) b_ hb_)).2.1))) b hb)) b hb (z ▸ (hs2685 _ List.mem_cons_self))) : ∀ b ∈ L2079, b ≠ b2689)) (OwAll.mono (Same.refl _) (keeps_mut x2673 ((fun b hb z => (fun b hb => ((nl_symm (new_nl nb2514 (fun b_ hb_ => (S2487.ow b_ (((fun b hb => (.tail _ (List.mem_append_right _ (.tail _ (.tail _ (.tail _ (.tail _ (.tail _ (List.mem_append_left _ hb))))))))) : ∀ b ∈ L2079, b ∈ (D2340 :: (L2494 ++ (a2077 :: (D2096 :: (p2062 :: (p2278 :: (p2214 :: (L2079 ++ (L2177 ++ [])))))))))) b_ hb_)).2.1))) b hb)) b hb (z ▸ (hs2665 _ List.mem_cons_self))) : ∀ b ∈ L2079, b ≠ b2668)) w2655)))
              have w2732 : OwAll G2639 H2718 L2177 (vs2175) ((acc2174 : (List (List Int))).map (oL oI)) := (OwAll.mono (Same.refl _) (keeps_same e2719) (OwAll.mono (Same.refl _) (keeps_mut x2694 ((fun b hb z => (fun b hb => ((nl_symm (new_nl nb2645 (fun b_ hb_ => (S2524.ow b_ (((fun b hb => (.tail _ (List.mem_append_right _ (.tail _ (List.mem_append_right _ (.tail _ (.tail _ (.tail _ (.tail _ (.tail _ (List.mem_append_right _ (List.mem_append_left _ hb)))))))))))) : ∀ b ∈ L2177, b ∈ (a2509 :: (L2511 ++ (D2340 :: (L2494 ++ (a2077 :: (D2096 :: (p2062 :: (p2278 :: (p2214 :: (L2079 ++ (L2177 ++ [])))))))))))) b_ hb_)).2.1))) b hb)) b hb (z ▸ (hs2685 _ List.mem_cons_self))) : ∀ b ∈ L2177, b ≠ b2689)) (OwAll.mono (Same.refl _) (keeps_mut x2673 ((fun b hb z => (fun b hb => ((nl_symm (new_nl nb2514 (fun b_ hb_ => (S2487.ow b_ (((fun b hb => (.tail _ (List.mem_append_right _ (.tail _ (.tail _ (.tail _ (.tail _ (.tail _ (List.mem_append_right _ (List.mem_append_left _ hb)))))))))) : ∀ b ∈ L2177, b ∈ (D2340 :: (L2494 ++ (a2077 :: (D2096 :: (p2062 :: (p2278 :: (p2214 :: (L2079 ++ (L2177 ++ [])))))))))) b_ hb_)).2.1))) b hb)) b hb (z ▸ (hs2665 _ List.mem_cons_self))) : ∀ b ∈ L2177, b ≠ b2668)) w2656)))
              have w2733 : OwAll G2639 H2718 L2494 (vs2492) ((acc2491 : (List (List Int))).map (oL oI)) := (OwAll.mono (Same.refl _) (keeps_same e2719) (OwAll.mono (Same.refl _) (keeps_mut x2694 ((fun b hb z => (fun b hb => ((nl_symm (new_nl nb2645 (fun b_ hb_ => (S2524.ow b_ (((fun b hb => (.tail _ (List.mem_append_right _ (.tail _ (List.mem_append_left _ hb))))) : ∀ b ∈ L2494, b ∈ (a2509 :: (L2511 ++ (D2340 :: (L2494 ++ (a2077 :: (D2096 :: (p2062 :: (p2278 :: (p2214 :: (L2079 ++ (L2177 ++ [])))))))))))) b_ hb_)).2.1))) b hb)) b hb (z ▸ (hs2685 _ List.mem_cons_self))) : ∀ b ∈ L2494, b ≠ b2689)) (OwAll.mono (Same.refl _) (keeps_mut x2673 ((fun b hb z => (fun b hb => ((nl_symm (new_nl nb2514 (fun b_ hb_ => (S2487.ow b_ (((fun b hb => (.tail _ (List.mem_append_left _ hb))) : ∀ b ∈ L2494, b ∈ (D2340 :: (L2494 ++ (a2077 :: (D2096 :: (p2062 :: (p2278 :: (p2214 :: (L2079 ++ (L2177 ++ [])))))))))) b_ hb_)).2.1))) b hb)) b hb (z ▸ (hs2665 _ List.mem_cons_self))) : ∀ b ∈ L2494, b ≠ b2668)) w2657)))
              have w2734 : OwAll G2639 H2718 L2511 (vs2510) ((setL (v2506) (0) (setL ((itD (v2506) (0))) (0) ((-1))) : (List (List Int))).map (oL oI)) := (OwAll.mono (Same.refl _) (keeps_same e2719) w2701)
              have w2735 : OwAll G2639 H2718 L2644 (vs2642) ((setL (acc2641) (0) (setL ((itD (acc2641) (0))) (0) ((-1))) : (List (List Int))).map (oL oI)) := (OwAll.mono (Same.refl _) (keeps_same e2719) w2698)
              exact ⟨_, [], [], [], Same.refl _, (S2722.sub (all_cons (.head _) (all_app (L := []) all_nil (all_cons (.tail _ (.tail _ (List.mem_append_right _ (.head _)))) (all_cons (.tail _ (.tail _ (List.mem_append_right _ (.tail _ (.head _))))) (all_cons (.tail _ (.tail _ (List.mem_append_right _ (.tail _ (.tail _ (.head _)))))) (all_cons (.tail _ (.tail _ (List.mem_append_right _ (.tail _ (.tail _ (.tail _ (.head _))))))) (all_cons (.tail _ (.head _)) (all_cons (.tail _ (.tail _ (List.mem_append_right _ (.tail _ (.tail _ (.tail _ (.tail _ (.head _)))))))) (all_cons (.tail _ (.tail _ (List.mem_append_right _ (.tail _ (.tail _ (.tail _ (.tail _ (.tail _ (.head _))))))))) (all_cons (.tail _ (.tail _ (List.mem_append_right _ (.tail _ (.tail _ (.tail _ (.tail _ (.tail _ (.tail _ (.head _)))))))))) (all_app ((fun b hb => (.tail _ (.tail _ (List.mem_append_right _ (.tail _ (.tail _ (.tail _ (.tail _ (.tail _ (.tail _ (.tail _ (List.mem_append_left _ hb)))))))))))) : ∀ b ∈ L2079, b ∈ (D2712 :: (D2531 :: (L2644 ++ (a2077 :: (D2096 :: (D2340 :: (a2509 :: (p2062 :: (p2278 :: (p2214 :: (L2079 ++ (L2177 ++ (L2494 ++ (L2511 ++ []))))))))))))))) (all_app ((fun b hb => (.tail _ (.tail _ (List.mem_append_right _ (.tail _ (.tail _ (.tail _ (.tail _ (.tail _ (.tail _ (.tail _ (List.mem_append_right _ (List.mem_append_left _ hb))))))))))))) : ∀ b ∈ L2177, b ∈ (D2712 :: (D2531 :: (L2644 ++ (a2077 :: (D2096 :: (D2340 :: (a2509 :: (p2062 :: (p2278 :: (p2214 :: (L2079 ++ (L2177 ++ (L2494 ++ (L2511 ++ []))))))))))))))) (all_app ((fun b hb => (.tail _ (.tail _ (List.mem_append_right _ (.tail _ (.tail _ (.tail _ (.tail _ (.tail _ (.tail _ (.tail _ (List.mem_append_right _ (List.mem_append_right _ (List.mem_append_left _ hb)))))))))))))) : ∀ b ∈ L2494, b ∈ (D2712 :: (D2531 :: (L2644 ++ (a2077 :: (D2096 :: (D2340 :: (a2509 :: (p2062 :: (p2278 :: (p2214 :: (L2079 ++ (L2177 ++ (L2494 ++ (L2511 ++ []))))))))))))))) (all_app ((fun b hb => (.tail _ (.tail _ (List.mem_append_right _ (.tail _ (.tail _ (.tail _ (.tail _ (.tail _ (.tail _ (.tail _ (List.mem_append_right _ (List.mem_append_right _ (List.mem_append_right _ (List.mem_append_left _ hb))))))))))))))) : ∀ b ∈ L2511, b ∈ (D2712 :: (D2531 :: (L2644 ++ (a2077 :: (D2096 :: (D2340 :: (a2509 :: (p2062 :: (p2278 :: (p2214 :: (L2079 ++ (L2177 ++ (L2494 ++ (L2511 ++ []))))))))))))))) (all_app ((fun b hb => (.tail _ (.tail _ (List.mem_append_left _ hb)))) : ∀ b ∈ L2644, b ∈ (D2712 :: (D2531 :: (L2644 ++ (a2077 :: (D2096 :: (D2340 :: (a2509 :: (p2062 :: (p2278 :: (p2214 :: (L2079 ++ (L2177 ++ (L2494 ++ (L2511 ++ []))))))))))))))) all_nil)))))))))))))))), h2723, h2724, h2725, h2726, h2727, h2728, h2729, h2730, h2720, w2731, w2732, w2733, w2734, w2735, OwAll.nil, all_nil, all_nil, e2719, hw⟩
            · intro i H2736 hi hw
              obtain ⟨G2739, acc2741, vs2742, L2744, eG2740, S2737, h2748, h2749, h2750, h2751, h2752, h2753, h2754, h2755, h2738, w2756, w2757, w2758, w2759, w2760, d2743, nb2745, nd2746, eo2747, hw⟩ := hw
              obtain ⟨z2761, hw⟩ := cW_mapA (rng_get hi) hw
              generalize (0 + (i : Int)) = x2762 at hw ⊢
              have hw := cW_noEr hw
              have hw : cW (F_law_c7 (acc2174) (x_2294) (y_2295) ((1 + (itD (v2275) (5)))) (x2762)) _ (fun _ => False) := hw
              unfold F_law_c7 at hw
              refine ⟨rfl, ?_⟩
              refine tyes_go ?_
              obtain ⟨g2764, hw⟩ := cW_grd hw
              obtain ⟨K2770, hK2771, hw⟩ := cW_push hw
              refine ⟨_, rfl, _, rfl, g2764.1, g2764.2, fun D2772 n2773 => lc_range (lo := 0) (n := Int.toNat ((1 + (itD (v2275) (5))))) (fun i2 H' => ∃ (G' : Hp) (acc2775 : (List Int)), Same G2739 G' ∧ Sep [] H H G' H' (D2772 :: (a2077 :: (D2096 :: (D2340 :: (a2509 :: (D2531 :: (D2712 :: (p2062 :: (p2278 :: (p2214 :: (L2079 ++ (L2177 ++ (L2494 ++ (L2511 ++ (L2644 ++ (L2744 ++ [])))))))))))))))) ∧ H' a2077 = some (.lst (vs2078)) ∧ H' D2096 = some (.lst (vs2175)) ∧ H' D2340 = some (.lst (vs2492)) ∧ H' a2509 = some (.lst (vs2510)) ∧ H' D2531 = some (.lst (vs2642)) ∧ H' D2712 = some (.lst (vs2742)) ∧ H' p2062 = some (.lst ((v2059 : (List Int)).map V.int)) ∧ H' p2278 = some (.lst ((v2275 : (List Int)).map V.int)) ∧ H' p2214 = some (.lst ((cutL (([0]) ++ (cutL (script') (some (2)) none)) none (some (6)) : (List Int)).map V.int)) ∧ H' D2772 = some (.lst ((acc2775 : (List Int)).map V.int)) ∧ OwAll G' H' L2079 (vs2078) ((v2074 : (List (List Int))).map (oL oI)) ∧ OwAll G' H' L2177 (vs2175) ((acc2174 : (List (List Int))).map (oL oI)) ∧ OwAll G' H' L2494 (vs2492) ((acc2491 : (List (List Int))).map (oL oI)) ∧ OwAll G' H' L2511 (vs2510) ((setL (v2506) (0) (setL ((itD (v2506) (0))) (0) ((-1))) : (List (List Int))).map (oL oI)) ∧ OwAll G' H' L2644 (vs2642) ((setL (acc2641) (0) (setL ((itD (acc2641) (0))) (0) ((-1))) : (List (List Int))).map (oL oI)) ∧ OwAll G' H' L2744 (vs2742) ((acc2741 : (List (List Int))).map (oL oI)) ∧ Same H2736 H' ∧ cW (mapA (List.drop i2 (rng (0) (Int.toNat ((1 + (itD (v2275) (5))))))) acc2775 (fun x => noEr (F_law_c8 (acc2174) (x_2294) (y_2295) (x2762) x))) K2770 (fun _ => False)) ?_ ?_ ?_⟩
              · generalize g2777 : upd H2736 D2772 _ = H2778
                obtain ⟨e2779, h2780⟩ := gen_new n2773 g2777
                have fr2781 := S2737.free n2773
                have S2782 := S2737.new n2773 e2779 h2780 fr2781
                have h2783 := (e2779 _ _ h2748)
                have h2784 := (e2779 _ _ h2749)
                have h2785 := (e2779 _ _ h2750)
                have h2786 := (e2779 _ _ h2751)
                have h2787 := (e2779 _ _ h2752)
                have h2788 := (e2779 _ _ h2738)
                have h2789 := (e2779 _ _ h2753)
                have h2790 := (e2779 _ _ h2754)
                have h2791 := (e2779 _ _ h2755)
                have w2792 : OwAll G2739 H2778 L2079 (vs2078) ((v2074 : (List (List Int))).map (oL oI)) := (OwAll.mono (Same.refl _) (keeps_same e2779) w2756)
                have w2793 : OwAll G2739 H2778 L2177 (vs2175) ((acc2174 : (List (List Int))).map (oL oI)) := (OwAll.mono (Same.refl _) (keeps_same e2779) w2757)
                have w2794 : OwAll G2739 H2778 L2494 (vs2492) ((acc2491 : (List (List Int))).map (oL oI)) := (OwAll.mono (Same.refl _) (keeps_same e2779) w2758)
                have w2795 : OwAll G2739 H2778 L2511 (vs2510) ((setL (v2506) (0) (setL ((itD (v2506) (0))) (0) ((-1))) : (List (List Int))).map (oL oI)) := (OwAll.mono (Same.refl _) (keeps_same e2779) w2759)
                have w2796 : OwAll G2739 H2778 L2644 (vs2642) ((setL (acc2641) (0) (setL ((itD (acc2641) (0))) (0) ((-1))) : (List (List Int))).map (oL oI)) := (OwAll.mono (Same.refl _) (keeps_same e2779) w2760)
                have w2797 : OwAll G2739 H2778 L2744 (vs2742) ((acc2741 : (List (List Int))).map (oL oI)) := (OwAll.mono (Same.refl _) (keeps_same e2779) d2743)
                exact ⟨_, [], Same.refl _, (S2782.sub (all_cons (.head _) (all_cons (.tail _ (.tail _ (List.mem_append_right _ (.head _)))) (all_cons (.tail _ (.tail _ (List.mem_append_right _ (.tail _ (.head _))))) (all_cons (.tail _ (.tail _ (List.mem_append_right _ (.tail _ (.tail _ (.head _)))))) (all_cons (.tail _ (.tail _ (List.mem_append_right _ (.tail _ (.tail _ (.tail _ (.head _))))))) (all_cons (.tail _ (.tail _ (List.mem_append_right _ (.tail _ (.tail _ (.tail _ (.tail _ (.head _)))))))) (all_cons (.tail _ (.head _)) (all_cons (.tail _ (.tail _ (List.mem_append_right _ (.tail _ (.tail _ (.tail _ (.tail _ (.tail _ (.head _))))))))) (all_cons (.tail _ (.tail _ (List.mem_append_right _ (.tail _ (.tail _ (.tail _ (.tail _ (.tail _ (.tail _ (.head _)))))))))) (all_cons (.tail _ (.tail _ (List.mem_append_right _ (.tail _ (.tail _ (.tail _ (.tail _ (.tail _ (.tail _ (.tail _ (.head _))))))))))) (all_app ((fun b hb => (.tail _ (.tail _ (List.mem_append_right _ (.tail _ (.tail _ (.tail _ (.tail _ (.tail _ (.tail _ (.tail _ (.tail _ (List.mem_append_left _ hb))))))))))))) : ∀ b ∈ L2079, b ∈ (D2772 :: (D2712 :: (L2744 ++ (a2077 :: (D2096 :: (D2340 :: (a2509 :: (D2531 :: (p2062 :: (p2278 :: (p2214 :: (L2079 ++ (L2177 ++ (L2494 ++ (L2511 ++ (L2644 ++ []))))))))))))))))) (all_app ((fun b hb => (.tail _ (.tail _ (List.mem_append_right _ (.tail _ (.tail _ (.tail _ (.tail _ (.tail _ (.tail _ (.tail _ (.tail _ (List.mem_append_right _ (List.mem_append_left _ hb)))))))))))))) : ∀ b ∈ L2177, b ∈ (D2772 :: (D2712 :: (L2744 ++ (a2077 :: (D2096 :: (D2340 :: (a2509 :: (D2531 :: (p2062 :: (p2278 :: (p2214 :: (L2079 ++ (L2177 ++ (L2494 ++ (L2511 ++ (L2644 ++ []))))))))))))))))) (all_app ((fun b hb => (.tail _ (.tail _ (List.mem_append_right _ (.tail _ (.tail _ (.tail _ (.tail _ (.tail _ (.tail _ (.tail _ (.tail _ (List.mem_append_right _ (List.mem_append_right _ (List.mem_append_left _ hb))))))))))))))) : ∀ b ∈ L2494, b ∈ (D2772 :: (D2712 :: (L2744 ++ (a2077 :: (D2096 :: (D2340 :: (a2509 :: (D2531 :: (p2062 :: (p2278 :: (p2214 :: (L2079 ++ (L2177 ++ (L2494 ++ (L2511 ++ (L2644 ++ []))))))))))))))))) (all_app ((fun b hb => (.tail _ (.tail _ (List.mem_append_right _ (.tail _ (.tail _ (.tail _ (.tail _ (.tail _ (.tail _ (.tail _ (.tail _ (List.mem_append_right _ (List.mem_append_right _ (List.mem_append_right _ (List.mem_append_left _ hb)))))))))))))))) : ∀ b ∈ L2511, b ∈ (D2772 :: (D2712 :: (L2744 ++ (a2077 :: (D2096 :: (D2340 :: (a2509 :: (D2531 :: (p2062 :: (p2278 :: (p2214 :: (L2079 ++ (L2177 ++ (L2494 ++ (L2511 ++ (L2644 ++ []))))))))))))))))) (all_app ((fun b hb => (.tail _ (.tail _ (List.mem_append_right _ (.tail _ (.tail _ (.tail _ (.tail _ (.tail _ (.tail _ (.tail _ (.tail _ (List.mem_append_right _ (List.mem_append_right _ (List.mem_append_right _ (List.mem_append_right _ (List.mem_append_left _ hb))))))))))))))))) : ∀ b ∈ L2644, b ∈ (D2772 :: (D2712 :: (L2744 ++ (a2077 :: (D2096 :: (D2340 :: (a2509 :: (D2531 :: (p2062 :: (p2278 :: (p2214 :: (L2079 ++ (L2177 ++ (L2494 ++ (L2511 ++ (L2644 ++ []))))))))))))))))) (all_app ((fun b hb => (.tail _ (.tail _ (List.mem_append_left _ hb)))) : ∀ b ∈ L2744, b ∈ (D2772 :: (D2712 :: (L2744 ++ (a2077 :: (D2096 :: (D2340 :: (a2509 :: (D2531 :: (p2062 :: (p2278 :: (p2214 :: (L2079 ++ (L2177 ++ (L2494 ++ (L2511 ++ (L2644 ++ []))))))))))))))))) all_nil))))))))))))))))), h2783, h2784, h2785, h2786, h2787, h2788, h2789, h2790, h2791, h2780, w2792, w2793, w2794, w2795, w2796, w2797, e2779, hw⟩
              · intro i2 H2798 hi hw
                obtain ⟨G2801, acc2803, eG2802, S2799, h2810, h2811, h2812, h2813, h2814, h2815, h2816, h2817, h2818, h2800, w2819, w2820, w2821, w2822, w2823, w2824, eo2809, hw⟩ := hw
                obtain ⟨z2825, hw⟩ := cW_mapA (rng_get hi) hw
                generalize (0 + (i2 : Int)) = x2826 at hw ⊢
                have hw := cW_noEr hw
                have hw : cW (F_law_c8 (acc2174) (x_2294) (y_2295) (x2762) (x2826)) _ (fun _ => False) := hw
                unfold F_law_c8 at hw
                refine ⟨rfl, ?_⟩
                refine tyes_go ?_
                refine ⟨_, rfl, _, rfl, _, rfl, _, _, rfl, rfl, (.inl ⟨by decide, by decide⟩), _, _, rfl, rfl, _, rfl, _, rfl, _, _, rfl, rfl, (.inl ⟨by decide, by decide⟩), _, _, rfl, rfl, rfl, rfl, G2801, _, _, _, _, rfl, S2799.sG, (Rp.hide_nil (rp_mk_list h2811 (OwAll.rpA w2820 (encO_L encO_I) S2799.sG))), cW_call hw (fun v2828 hw => ?_) (fun e he => he.elim)⟩
                refine ⟨_, h2800, (app_lenM z2825), ?_⟩
                generalize g2829 : upd H2798 D2772 _ = H2830
                obtain ⟨x2831, h2832⟩ := gen_mut g2829
                have S2833 := S2799.mut1 x2831 (.head _) h2832
                have hw := cW_ok hw
                have h2834 := (x2831 _ _ h2810 (ne_of_none h2748 n2773))
                have h2835 := (x2831 _ _ h2811 (ne_of_none h2749 n2773))
                have h2836 := (x2831 _ _ h2812 (ne_of_none h2750 n2773))
                have h2837 := (x2831 _ _ h2813 (ne_of_none h2751 n2773))
                have h2838 := (x2831 _ _ h2814 (ne_of_none h2752 n2773))
                have h2839 := (x2831 _ _ h2815 (ne_of_none h2738 n2773))
                have h2840 := (x2831 _ _ h2816 (ne_of_none h2753 n2773))
                have h2841 := (x2831 _ _ h2817 (ne_of_none h2754 n2773))
                have h2842 := (x2831 _ _ h2818 (ne_of_none h2755 n2773))
                have w2843 : OwAll G2801 H2830 L2079 (vs2078) ((v2074 : (List (List Int))).map (oL oI)) := (OwAll.mono (Same.refl _) (keeps_mut x2831 ((there_ne (fun b_ hb_ => (S2737.ow b_ (((fun b hb => (.tail _ (List.mem_append_right _ (.tail _ (.tail _ (.tail _ (.tail _ (.tail _ (.tail _ (.tail _ (.tail _ (List.mem_append_left _ hb)))))))))))) : ∀ b ∈ L2079, b ∈ (D2712 :: (L2744 ++ (a2077 :: (D2096 :: (D2340 :: (a2509 :: (D2531 :: (p2062 :: (p2278 :: (p2214 :: (L2079 ++ (L2177 ++ (L2494 ++ (L2511 ++ (L2644 ++ [])))))))))))))))) b_ hb_)).2.1) n2773) : ∀ b ∈ L2079, b ≠ D2772)) w2819)
                have w2844 : OwAll G2801 H2830 L2177 (vs2175) ((acc2174 : (List (List Int))).map (oL oI)) := (OwAll.mono (Same.refl _) (keeps_mut x2831 ((there_ne (fun b_ hb_ => (S2737.ow b_ (((fun b hb => (.tail _ (List.mem_append_right _ (.tail _ (.tail _ (.tail _ (.tail _ (.tail _ (.tail _ (.tail _ (.tail _ (List.mem_append_right _ (List.mem_append_left _ hb))))))))))))) : ∀ b ∈ L2177, b ∈ (D2712 :: (L2744 ++ (a2077 :: (D2096 :: (D2340 :: (a2509 :: (D2531 :: (p2062 :: (p2278 :: (p2214 :: (L2079 ++ (L2177 ++ (L2494 ++ (L2511 ++ (L2644 ++ [])))))))))))))))) b_ hb_)).2.1) n2773) : ∀ b ∈ L2177, b ≠ D2772)) w2820)
                have w2845 : OwAll G2801 H2830 L2494 (vs2492) ((acc2491 : (List (List Int))).map (oL oI)) := (OwAll.mono (Same.refl _) (keeps_mut x2831 ((there_ne (fun b_ hb_ => (S2737.ow b_ (((fun b hb => (.tail _ (List.mem_append_right _ (.tail _ (.tail _ (.tail _ (.tail _ (.tail _ (.tail _ (.tail _ (.tail _ (List.mem_append_right _ (List.mem_append_right _ (List.mem_append_left _ hb)))))))))))))) : ∀ b ∈ L2494, b ∈ (D2712 :: (L2744 ++ (a2077 :: (D2096 :: (D2340 :: (a2509 :: (D2531 :: (p2062 :: (p2278 :: (p2214 :: (L2079 ++ (L2177 ++ (L2494 ++ (L2511 ++ (L2644 ++ [])))))))))))))))) b_ hb_)).2.1) n2773) : ∀ b ∈ L2494, b ≠ D2772)) w2821)
                have w2846 : OwAll G2801 H2830 L2511 (vs2510) ((setL (v2506) (0) (setL ((itD (v2506) (0))) (0) ((-1))) : (List (List Int))).map (oL oI)) := (OwAll.mono (Same.refl _) (keeps_mut x2831 ((there_ne (fun b_ hb_ => (S2737.ow b_ (((fun b hb => (.tail _ (List.mem_append_right _ (.tail _ (.tail _ (.tail _ (.tail _ (.tail _ (.tail _ (.tail _ (.tail _ (List.mem_append_right _ (List.mem_append_right _ (List.mem_append_right _ (List.mem_append_left _ hb))))))))))))))) : ∀ b ∈ L2511, b ∈ (D2712 :: (L2744 ++ (a2077 :: (D2096 :: (D2340 :: (a2509 :: (D2531 :: (p2062 :: (p2278 :: (p2214 :: (L2079 ++ (L2177 ++ (L2494 ++ (L2511 ++ (L2644 ++ [])))))))))))))))) b_ hb_)).2.1) n2773) : ∀ b ∈ L2511, b ≠ D2772)) w2822)
                have w2847 : OwAll G2801 H2830 L2644 (vs2642) ((setL (acc2641) (0) (setL ((itD (acc2641) (0))) (0) ((-1))) : (List (List Int))).map (oL oI)) := (OwAll.mono (Same.refl _) (keeps_mut x2831 ((there_ne (fun b_ hb_ => (S2737.ow b_ (((fun b hb => (.tail _ (List.mem_append_right _ (.tail _ (.tail _ (.tail _ (.tail _ (.tail _ (.tail _ (.tail _ (.tail _ (List.mem_append_right _ (List.mem_append_right _ (List.mem_append_right _ (List.mem_append_right _ (List.mem_append_left _ hb)))))))))))))))) : ∀ b ∈ L2644, b ∈ (D2712 :: (L2744 ++ (a2077 :: (D2096 :: (D2340 :: (a2509 :: (D2531 :: (p2062 :: (p2278 :: (p2214 :: (L2079 ++ (L2177 ++ (L2494 ++ (L2511 ++ (L2644 ++ [])))))))))))))))) b_ hb_)).2.1) n2773) : ∀ b ∈ L2644, b ≠ D2772)) w2823)
                have w2848 : OwAll G2801 H2830 L2744 (vs2742) ((acc2741 : (List (List Int))).map (oL oI)) := (OwAll.mono (Same.refl _) (keeps_mut x2831 ((there_ne (fun b_ hb_ => (S2737.ow b_ (((fun b hb => (.tail _ (List.mem_append_left _ hb))) : ∀ b ∈ L2744, b ∈ (D2712 :: (L2744 ++ (a2077 :: (D2096 :: (D2340 :: (a2509 :: (D2531 :: (p2062 :: (p2278 :: (p2214 :: (L2079 ++ (L2177 ++ (L2494 ++ (L2511 ++ (L2644 ++ [])))))))))))))))) b_ hb_)).2.1) n2773) : ∀ b ∈ L2744, b ≠ D2772)) w2824)
                exact ⟨_, (acc2803 ++ [v2828]), eG2802, S2833, h2834, h2835, h2836, h2837, h2838, h2839, h2840, h2841, h2842, (snoc_map h2832), w2843, w2844, w2845, w2846, w2847, w2848, (same_mut eo2809 x2831 n2773), hw⟩
              intro H2849 hw
              obtain ⟨G2852, acc2854, eG2853, S2850, h2861, h2862, h2863, h2864, h2865, h2866, h2867, h2868, h2869, h2851, w2870, w2871, w2872, w2873, w2874, w2875, eo2860, hw⟩ := hw
              have hw := hK2771 _ (cW_mapA0 (rng_len _ _).symm hw)
              have fr2876 := S2737.free n2773
              refine ⟨_, h2866, (app_len (OwAll.rpA w2875 (encO_L encO_I) S2850.sG) z2761), ?_⟩
              generalize g2877 : upd H2849 D2712 _ = H2878
              obtain ⟨x2879, h2880⟩ := gen_mut g2877
              have S2881 := S2850.mut1 x2879 (.tail _ (.tail _ (.tail _ (.tail _ (.tail _ (.tail _ (.head _))))))) h2880
              have hw := cW_ok hw
              have h2882 := (x2879 _ _ h2861 (ne_of_none (x2694 _ _ (x2673 _ _ h2648 ((new_ne2 nb2514 (S2487.ow _ (.tail _ (List.mem_append_right _ (.head _)))).2.1) _ (hs2665 _ List.mem_cons_self)).symm) ((new_ne2 nb2645 (S2524.ow _ (.tail _ (List.mem_append_right _ (.tail _ (List.mem_append_right _ (.head _)))))).2.1) _ (hs2685 _ List.mem_cons_self)).symm) n2713))
              have h2883 := (x2879 _ _ h2862 (ne_of_none (x2694 _ _ (x2673 _ _ h2649 ((new_ne2 nb2514 (S2487.ow _ (.tail _ (List.mem_append_right _ (.tail _ (.head _))))).2.1) _ (hs2665 _ List.mem_cons_self)).symm) ((new_ne2 nb2645 (S2524.ow _ (.tail _ (List.mem_append_right _ (.tail _ (List.mem_append_right _ (.tail _ (.head _))))))).2.1) _ (hs2685 _ List.mem_cons_self)).symm) n2713))
              have h2884 := (x2879 _ _ h2863 (ne_of_none (x2694 _ _ (x2673 _ _ h2650 ((new_ne2 nb2514 (S2487.ow _ (.head _)).2.1) _ (hs2665 _ List.mem_cons_self)).symm) ((new_ne2 nb2645 (S2524.ow _ (.tail _ (List.mem_append_right _ (.head _)))).2.1) _ (hs2685 _ List.mem_cons_self)).symm) n2713))
              have h2885 := (x2879 _ _ h2864 (ne_of_none h2700 n2713))
              have h2886 := (x2879 _ _ h2865 (ne_of_none h2702 n2713))
              have h2887 := (x2879 _ _ h2867 (ne_of_none (x2694 _ _ (x2673 _ _ h2652 ((new_ne2 nb2514 (S2487.ow _ (.tail _ (List.mem_append_right _ (.tail _ (.tail _ (.head _)))))).2.1) _ (hs2665 _ List.mem_cons_self)).symm) ((new_ne2 nb2645 (S2524.ow _ (.tail _ (List.mem_append_right _ (.tail _ (List.mem_append_right _ (.tail _ (.tail _ (.head _)))))))).2.1) _ (hs2685 _ List.mem_cons_self)).symm) n2713))
              have h2888 := (x2879 _ _ h2868 (ne_of_none (x2694 _ _ (x2673 _ _ h2653 ((new_ne2 nb2514 (S2487.ow _ (.tail _ (List.mem_append_right _ (.tail _ (.tail _ (.tail _ (.head _))))))).2.1) _ (hs2665 _ List.mem_cons_self)).symm) ((new_ne2 nb2645 (S2524.ow _ (.tail _ (List.mem_append_right _ (.tail _ (List.mem_append_right _ (.tail _ (.tail _ (.tail _ (.head _))))))))).2.1) _ (hs2685 _ List.mem_cons_self)).symm) n2713))
              have h2889 := (x2879 _ _ h2869 (ne_of_none (x2694 _ _ (x2673 _ _ h2654 ((new_ne2 nb2514 (S2487.ow _ (.tail _ (List.mem_append_right _ (.tail _ (.tail _ (.tail _ (.tail _ (.head _)))))))).2.1) _ (hs2665 _ List.mem_cons_self)).symm) ((new_ne2 nb2645 (S2524.ow _ (.tail _ (List.mem_append_right _ (.tail _ (List.mem_append_right _ (.tail _ (.tail _ (.tail _ (.tail _ (.head _)))))))))).2.1) _ (hs2685 _ List.mem_cons_self)).symm) n2713))
              have w2890 : OwAll G2852 H2878 L2079 (vs2078) ((v2074 : (List (List Int))).map (oL oI)) := (OwAll.mono (Same.refl _) (keeps_mut x2879 ((there_ne (fun b_ hb_ => (S2697.ow b_ (((fun b hb => (.tail _ (List.mem_append_right _ (.tail _ (.tail _ (.tail _ (.tail _ (.tail _ (.tail _ (.tail _ (List.mem_append_left _ hb))))))))))) : ∀ b ∈ L2079, b ∈ (D2531 :: (L2644 ++ (a2077 :: (D2096 :: (D2340 :: (a2509 :: (p2062 :: (p2278 :: (p2214 :: (L2079 ++ (L2177 ++ (L2494 ++ (L2511 ++ [])))))))))))))) b_ hb_)).2.1) n2713) : ∀ b ∈ L2079, b ≠ D2712)) w2870)
              have w2891 : OwAll G2852 H2878 L2177 (vs2175) ((acc2174 : (List (List Int))).map (oL oI)) := (OwAll.mono (Same.refl _) (keeps_mut x2879 ((there_ne (fun b_ hb_ => (S2697.ow b_ (((fun b hb => (.tail _ (List.mem_append_right _ (.tail _ (.tail _ (.tail _ (.tail _ (.tail _ (.tail _ (.tail _ (List.mem_append_right _ (List.mem_append_left _ hb)))))))))))) : ∀ b ∈ L2177, b ∈ (D2531 :: (L2644 ++ (a2077 :: (D2096 :: (D2340 :: (a2509 :: (p2062 :: (p2278 :: (p2214 :: (L2079 ++ (L2177 ++ (L2494 ++ (L2511 ++ [])))))))))))))) b_ hb_)).2.1) n2713) : ∀ b ∈ L2177, b ≠ D2712)) w2871)
              have w2892 : OwAll G2852 H2878 L2494 (vs2492) ((acc2491 : (List (List Int))).map (oL oI)) := (OwAll.mono (Same.refl _) (keeps_mut x2879 ((there_ne (fun b_ hb_ => (S2697.ow b_ (((fun b hb => (.tail _ (List.mem_append_right _ (.tail _ (.tail _ (.tail _ (.tail _ (.tail _ (.tail _ (.tail _ (List.mem_append_right _ (List.mem_append_right _ (List.mem_append_left _ hb))))))))))))) : ∀ b ∈ L2494, b ∈ (D2531 :: (L2644 ++ (a2077 :: (D2096 :: (D2340 :: (a2509 :: (p2062 :: (p2278 :: (p2214 :: (L2079 ++ (L2177 ++ (L2494 ++ (L2511 ++ [])))))))))))))) b_ hb_)).2.1) n2713) : ∀ b ∈ L2494, b ≠ D2712)) w2872)
              have w2893 : OwAll G2852 H2878 L2511 (vs2510) ((setL (v2506) (0) (setL ((itD (v2506) (0))) (0) ((-1))) : (List (List Int))).map (oL oI)) := (OwAll.mono (Same.refl _) (keeps_mut x2879 ((there_ne (fun b_ hb_ => (S2697.ow b_ (((fun b hb => (.tail _ (List.mem_append_right _ (.tail _ (.tail _ (.tail _ (.tail _ (.tail _ (.tail _ (.tail _ (List.mem_append_right _ (List.mem_append_right _ (List.mem_append_right _ (List.mem_append_left _ hb)))))))))))))) : ∀ b ∈ L2511, b ∈ (D2531 :: (L2644 ++ (a2077 :: (D2096 :: (D2340 :: (a2509 :: (p2062 :: (p2278 :: (p2214 :: (L2079 ++ (L2177 ++ (L2494 ++ (L2511 ++ [])))))))))))))) b_ hb_)).2.1) n2713) : ∀ b ∈ L2511, b ≠ D2712)) w2873)
              have w2894 : OwAll G2852 H2878 L2644 (vs2642) ((setL (acc2641) (0) (setL ((itD (acc2641) (0))) (0) ((-1))) : (List (List Int))).map (oL oI)) := (OwAll.mono (Same.refl _) (keeps_mut x2879 ((there_ne (fun b_ hb_ => (S2697.ow b_ (((fun b hb => (.tail _ (List.mem_append_left _ hb))) : ∀ b ∈ L2644, b ∈ (D2531 :: (L2644 ++ (a2077 :: (D2096 :: (D2340 :: (a2509 :: (p2062 :: (p2278 :: (p2214 :: (L2079 ++ (L2177 ++ (L2494 ++ (L2511 ++ [])))))))))))))) b_ hb_)).2.1) n2713) : ∀ b ∈ L2644, b ≠ D2712)) w2874)
              exact ⟨_, (acc2741 ++ [acc2854]), _, (L2744 ++ (D2772 :: ([] : List Addr))), (Same.trans eG2740 eG2853), (S2881.sub (all_cons (.tail _ (.tail _ (.tail _ (.tail _ (.tail _ (.tail _ (.head _))))))) (all_app (all_app ((fun b hb => (.tail _ (.tail _ (.tail _ (.tail _ (.tail _ (.tail _ (.tail _ (.tail _ (.tail _ (.tail _ (List.mem_append_right _ (List.mem_append_right _ (List.mem_append_right _ (List.mem_append_right _ (List.mem_append_right _ (List.mem_append_left _ hb))))))))))))))))) : ∀ b ∈ L2744, b ∈ (D2772 :: (a2077 :: (D2096 :: (D2340 :: (a2509 :: (D2531 :: (D2712 :: (p2062 :: (p2278 :: (p2214 :: (L2079 ++ (L2177 ++ (L2494 ++ (L2511 ++ (L2644 ++ (L2744 ++ []))))))))))))))))) (all_cons (.head _) all_nil)) (all_cons (.tail _ (.head _)) (all_cons (.tail _ (.tail _ (.head _))) (all_cons (.tail _ (.tail _ (.tail _ (.head _)))) (all_cons (.tail _ (.tail _ (.tail _ (.tail _ (.head _))))) (all_cons (.tail _ (.tail _ (.tail _ (.tail _ (.tail _ (.head _)))))) (all_cons (.tail _ (.tail _ (.tail _ (.tail _ (.tail _ (.tail _ (.tail _ (.head _)))))))) (all_cons (.tail _ (.tail _ (.tail _ (.tail _ (.tail _ (.tail _ (.tail _ (.tail _ (.head _))))))))) (all_cons (.tail _ (.tail _ (.tail _ (.tail _ (.tail _ (.tail _ (.tail _ (.tail _ (.tail _ (.head _)))))))))) (all_app ((fun b hb => (.tail _ (.tail _ (.tail _ (.tail _ (.tail _ (.tail _ (.tail _ (.tail _ (.tail _ (.tail _ (List.mem_append_left _ hb)))))))))))) : ∀ b ∈ L2079, b ∈ (D2772 :: (a2077 :: (D2096 :: (D2340 :: (a2509 :: (D2531 :: (D2712 :: (p2062 :: (p2278 :: (p2214 :: (L2079 ++ (L2177 ++ (L2494 ++ (L2511 ++ (L2644 ++ (L2744 ++ []))))))))))))))))) (all_app ((fun b hb => (.tail _ (.tail _ (.tail _ (.tail _ (.tail _ (.tail _ (.tail _ (.tail _ (.tail _ (.tail _ (List.mem_append_right _ (List.mem_append_left _ hb))))))))))))) : ∀ b ∈ L2177, b ∈ (D2772 :: (a2077 :: (D2096 :: (D2340 :: (a2509 :: (D2531 :: (D2712 :: (p2062 :: (p2278 :: (p2214 :: (L2079 ++ (L2177 ++ (L2494 ++ (L2511 ++ (L2644 ++ (L2744 ++ []))))))))))))))))) (all_app ((fun b hb => (.tail _ (.tail _ (.tail _ (.tail _ (.tail _ (.tail _ (.tail _ (.tail _ (.tail _ (.tail _ (List.mem_append_right _ (List.mem_append_right _ (List.mem_append_left _ hb)))))))))))))) : ∀ b ∈ L2494, b ∈ (D2772 :: (a2077 :: (D2096 :: (D2340 :: (a2509 :: (D2531 :: (D2712 :: (p2062 :: (p2278 :: (p2214 :: (L2079 ++ (L2177 ++ (L2494 ++ (L2511 ++ (L2644 ++ (L2744 ++ []))))))))))))))))) (all_app ((fun b hb => (.tail _ (.tail _ (.tail _ (.tail _ (.tail _ (.tail _ (.tail _ (.tail _ (.tail _ (.tail _ (List.mem_append_right _ (List.mem_append_right _ (List.mem_append_right _ (List.mem_append_left _ hb))))))))))))))) : ∀ b ∈ L2511, b ∈ (D2772 :: (a2077 :: (D2096 :: (D2340 :: (a2509 :: (D2531 :: (D2712 :: (p2062 :: (p2278 :: (p2214 :: (L2079 ++ (L2177 ++ (L2494 ++ (L2511 ++ (L2644 ++ (L2744 ++ []))))))))))))))))) (all_app ((fun b hb => (.tail _ (.tail _ (.tail _ (.tail _ (.tail _ (.tail _ (.tail _ (.tail _ (.tail _ (.tail _ (List.mem_append_right _ (List.mem_append_right _ (List.mem_append_right _ (List.mem_append_right _ (List.mem_append_left _ hb)))))))))))))))) : ∀ b ∈ L2644, b ∈ (D2772 :: (a2077 :: (D2096 :: (D2340 :: (a2509 :: (D2531 :: (D2712 :: (p2062 :: (p2278 :: (p2214 :: (L2079 ++ (L2177 ++ (L2494 ++ (L2511 ++ (L2644 ++ (L2744 ++ []))))))))))))))))) all_nil)))))))))))))))), h2882, h2883, h2884, h2885, h2886, h2887, h2888, h2889, h2880, w2890, w2891, w2892, w2893, w2894, (OwAll.mono (Same.refl _) (keeps_mut x2879 ((all_app nd2746 (all_cons (ne_of_none h2738 n2773).symm all_nil)) : ∀ b ∈ (L2744 ++ (D2772 :: ([] : List Addr))), b ≠ D2712)) (OwAll.snocM w2875 (Ow.ints h2851) ((fun b hb => (nm_cons ((there_ne (fun b_ hb_ => (S2737.ow b_ (((fun b hb => (.tail _ (List.mem_append_left _ hb))) : ∀ b ∈ L2744, b ∈ (D2712 :: (L2744 ++ (a2077 :: (D2096 :: (D2340 :: (a2509 :: (D2531 :: (p2062 :: (p2278 :: (p2214 :: (L2079 ++ (L2177 ++ (L2494 ++ (L2511 ++ (L2644 ++ [])))))))))))))))) b_ hb_)).2.1) n2773) b hb) nm_nil)) : ∀ b ∈ L2744, b ∉ (D2772 :: ([] : List Addr))))), ((all_app nb2745 (all_cons (none_of_same eo2747 n2773) all_nil)) : ∀ b ∈ (L2744 ++ (D2772 :: ([] : List Addr))), H2693 b = none), ((all_app nd2746 (all_cons (ne_of_none h2738 n2773).symm all_nil)) : ∀ b ∈ (L2744 ++ (D2772 :: ([] : List Addr))), b ≠ D2712), (same_mut (Same.trans eo2747 eo2860) x2879 n2713), hw⟩
            intro H2895 hw
            obtain ⟨G2898, acc2900, vs2901, L2903, eG2899, S2896, h2907, h2908, h2909, h2910, h2911, h2912, h2913, h2914, h2897, w2915, w2916, w2917, w2918, w2919, d2902, nb2904, nd2905, eo2906, hw⟩ := hw
            have hw := hK2711 _ (cW_mapA0 (rng_len _ _).symm hw)
            have fr2920 := S2697.free n2713
            refine ⟨_, rfl, _, rfl, _, rfl, _, rfl, _, rfl, _, rfl, rfl, rfl, G2898, _, _, _, _, _, _, _, rfl, S2896.sG, (Rp.hide_nil (rp_mk_list h2907 (OwAll.rpA w2915 (encO_L encO_I) S2896.sG))), cW_call hw (fun v2921 hw H2922 a2924 vs2925 L2926 G2927 n2928 nb2929 nd2930 e2923 eG2931 sG2932 hn2933 ga2934 gL2935 h2936 w2937 => ?_) (fun e he => (hE e he).elim)⟩
            have fr2938 := S2896.free n2928
            have S2939 : Sep _ _ _ _ H2922 (a2924 :: (L2926 ++ (D2712 :: (L2903 ++ (a2077 :: (D2096 :: (D2340 :: (a2509 :: (D2531 :: (p2062 :: (p2278 :: (p2214 :: (L2079 ++ (L2177 ++ (L2494 ++ (L2511 ++ (L2644 ++ []))))))))))))))))) := Sep.steptree S2896 e2923 eG2931 sG2932 hn2933 (a2924 :: L2926) (all_cons ⟨n2928, ga2934, some_ne h2936⟩ (fun b hb => ⟨nb2929 b hb, gL2935 b hb, OwAll.there w2937 b hb⟩))
            refine ⟨_, rfl, _, _, _, _, _, rfl, (.ty _), (.base (.lst h2936)), rfl, _, rfl, ?_⟩
            refine iteF ?_
            have h2940 := (e2923 _ _ h2897)
            have w2941 : OwAll G2927 H2922 L2903 (vs2901) ((acc2900 : (List (List Int))).map (oL oI)) := (OwAll.mono eG2931 keeps_refl (OwAll.mono (Same.refl _) (keeps_same e2923) d2902))
            refine ⟨_, rfl, _, rfl, _, _, (rp_mk_list h2936 (OwAll.rpA w2937 (encO_L encO_I) S2939.sG)), (rp_mk_list h2940 (OwAll.rpA w2941 (encO_L encO_I) S2939.sG)), _, rfl, ?_⟩
            refine iteN (fun c2942 => ?_) (fun c2942 => ?_)
            · have hw := cW_neg c2942 hw
              refine iteT ?_
              have hw := cW_ok hw
              have hw := hK2264 (.rt _) hw
              have hw := hK2227 (.rt _) hw
              have hw := cW_ok hw
              exact eq_bl (k _) (hK0 _ hw).symm
            · have hw := cW_pos c2942 hw
              have h2943 := (e2923 _ _ h2907)
              have w2944 : OwAll G2927 H2922 L2079 (vs2078) ((v2074 : (List (List Int))).map (oL oI)) := (OwAll.mono eG2931 keeps_refl (OwAll.mono (Same.refl _) (keeps_same e2923) w2915))
              have h2945 := (e2923 _ _ h2908)
              have w2946 : OwAll G2927 H2922 L2177 (vs2175) ((acc2174 : (List (List Int))).map (oL oI)) := (OwAll.mono eG2931 keeps_refl (OwAll.mono (Same.refl _) (keeps_same e2923) w2916))
              refine ⟨_, rfl, _, rfl, _, _, (rp_mk_list h2943 (OwAll.rpA w2944 (encO_L encO_I) S2939.sG)), (rp_mk_list h2945 (OwAll.rpA w2946 (encO_L encO_I) S2939.sG)), _, rfl, ?_⟩
              refine iteN (fun c2947 => ?_) (fun c2947 => ?_)
              · have hw := cW_neg c2947 hw
                have hw := cW_ok hw
                have hw := hK2264 (.rt _) hw
                have hw := hK2227 (.rt _) hw
                have hw := cW_ok hw
                exact eq_bl (k _) (hK0 _ hw).symm
              · have hw := cW_pos c2947 hw
                obtain ⟨K2949, hK2950, hw⟩ := cW_push hw
                refine ⟨_, rfl, _, rfl, ⟨_, (SqL.of h2940)⟩, fun D2951 n2952 => lc_list (K := K) (a := D2712) (xs := vs2901) (fun i H' => ∃ (G' : Hp) (acc2954 : (List (List Int))) (vs2955 : List V) (L2953 : List Addr), Same G2927 G' ∧ Sep [] H H G' H' (D2951 :: (L2953 ++ (a2077 :: (D2096 :: (D2712 :: (a2924 :: (D2531 :: (p2062 :: (p2278 :: (p2214 :: (L2079 ++ (L2177 ++ (L2903 ++ (L2926 ++ (L2644 ++ []))))))))))))))) ∧ H' a2077 = some (.lst (vs2078)) ∧ H' D2096 = some (.lst (vs2175)) ∧ H' D2712 = some (.lst (vs2901)) ∧ H' a2924 = some (.lst (vs2925)) ∧ H' D2531 = some (.lst (vs2642)) ∧ H' p2062 = some (.lst ((v2059 : (List Int)).map V.int)) ∧ H' p2278 = some (.lst ((v2275 : (List Int)).map V.int)) ∧ H' p2214 = some (.lst ((cutL (([0]) ++ (cutL (script') (some (2)) none)) none (some (6)) : (List Int)).map V.int)) ∧ H' D2951 = some (.lst vs2955) ∧ OwAll G' H' L2079 (vs2078) ((v2074 : (List (List Int))).map (oL oI)) ∧ OwAll G' H' L2177 (vs2175) ((acc2174 : (List (List Int))).map (oL oI)) ∧ OwAll G' H' L2903 (vs2901) ((acc2900 : (List (List Int))).map (oL oI)) ∧ OwAll G' H' L2926 (vs2925) ((v2921 : (List (List Int))).map (oL oI)) ∧ OwAll G' H' L2644 (vs2642) ((setL (acc2641) (0) (setL ((itD (acc2641) (0))) (0) ((-1))) : (List (List Int))).map (oL oI)) ∧ OwAll G' H' L2953 vs2955 ((acc2954 : (List (List Int))).map (oL oI)) ∧ (∀ b ∈ L2953, H2922 b = none) ∧ (∀ b ∈ L2953, b ≠ D2951) ∧ Same H2922 H' ∧ cW (mapA (List.drop i (acc2900)) acc2954 (fun x => noEr (F_law_c9  x))) K2949 EE) ?_ ?_ ?_ ?_⟩
                · generalize g2956 : upd H2922 D2951 _ = H2957
                  obtain ⟨e2958, h2959⟩ := gen_new n2952 g2956
                  have fr2960 := S2939.free n2952
                  have S2961 := S2939.new n2952 e2958 h2959 fr2960
                  have h2962 := (e2958 _ _ h2943)
                  have h2963 := (e2958 _ _ h2945)
                  have h2964 := (e2958 _ _ h2940)
                  have h2965 := (e2958 _ _ h2936)
                  have h2966 := (e2958 _ _ (e2923 _ _ h2911))
                  have h2967 := (e2958 _ _ (e2923 _ _ h2912))
                  have h2968 := (e2958 _ _ (e2923 _ _ h2913))
                  have h2969 := (e2958 _ _ (e2923 _ _ h2914))
                  have w2970 : OwAll G2927 H2957 L2079 (vs2078) ((v2074 : (List (List Int))).map (oL oI)) := (OwAll.mono (Same.refl _) (keeps_same e2958) w2944)
                  have w2971 : OwAll G2927 H2957 L2177 (vs2175) ((acc2174 : (List (List Int))).map (oL oI)) := (OwAll.mono (Same.refl _) (keeps_same e2958) w2946)
                  have w2972 : OwAll G2927 H2957 L2903 (vs2901) ((acc2900 : (List (List Int))).map (oL oI)) := (OwAll.mono (Same.refl _) (keeps_same e2958) w2941)
                  have w2973 : OwAll G2927 H2957 L2926 (vs2925) ((v2921 : (List (List Int))).map (oL oI)) := (OwAll.mono (Same.refl _) (keeps_same e2958) w2937)
                  have w2974 : OwAll G2927 H2957 L2644 (vs2642) ((setL (acc2641) (0) (setL ((itD (acc2641) (0))) (0) ((-1))) : (List (List Int))).map (oL oI)) := (OwAll.mono eG2931 keeps_refl (OwAll.mono (Same.refl _) (keeps_same e2958) (OwAll.mono (Same.refl _) (keeps_same e2923) w2919)))
                  exact ⟨_, [], [], [], Same.refl _, (S2961.sub (all_cons (.head _) (all_app (L := []) all_nil (all_cons (.tail _ (.tail _ (List.mem_append_right _ (.tail _ (List.mem_append_right _ (.head _)))))) (all_cons (.tail _ (.tail _ (List.mem_append_right _ (.tail _ (List.mem_append_right _ (.tail _ (.head _))))))) (all_cons (.tail _ (.tail _ (List.mem_append_right _ (.head _)))) (all_cons (.tail _ (.head _)) (all_cons (.tail _ (.tail _ (List.mem_append_right _ (.tail _ (List.mem_append_right _ (.tail _ (.tail _ (.tail _ (.tail _ (.head _)))))))))) (all_cons (.tail _ (.tail _ (List.mem_append_right _ (.tail _ (List.mem_append_right _ (.tail _ (.tail _ (.tail _ (.tail _ (.tail _ (.head _))))))))))) (all_cons (.tail _ (.tail _ (List.mem_append_right _ (.tail _ (List.mem_append_right _ (.tail _ (.tail _ (.tail _ (.tail _ (.tail _ (.tail _ (.head _)))))))))))) (all_cons (.tail _ (.tail _ (List.mem_append_right _ (.tail _ (List.mem_append_right _ (.tail _ (.tail _ (.tail _ (.tail _ (.tail _ (.tail _ (.tail _ (.head _))))))))))))) (all_app ((fun b hb => (.tail _ (.tail _ (List.mem_append_right _ (.tail _ (List.mem_append_right _ (.tail _ (.tail _ (.tail _ (.tail _ (.tail _ (.tail _ (.tail _ (.tail _ (List.mem_append_left _ hb))))))))))))))) : ∀ b ∈ L2079, b ∈ (D2951 :: (a2924 :: (L2926 ++ (D2712 :: (L2903 ++ (a2077 :: (D2096 :: (D2340 :: (a2509 :: (D2531 :: (p2062 :: (p2278 :: (p2214 :: (L2079 ++ (L2177 ++ (L2494 ++ (L2511 ++ (L2644 ++ []))))))))))))))))))) (all_app ((fun b hb => (.tail _ (.tail _ (List.mem_append_right _ (.tail _ (List.mem_append_right _ (.tail _ (.tail _ (.tail _ (.tail _ (.tail _ (.tail _ (.tail _ (.tail _ (List.mem_append_right _ (List.mem_append_left _ hb)))))))))))))))) : ∀ b ∈ L2177, b ∈ (D2951 :: (a2924 :: (L2926 ++ (D2712 :: (L2903 ++ (a2077 :: (D2096 :: (D2340 :: (a2509 :: (D2531 :: (p2062 :: (p2278 :: (p2214 :: (L2079 ++ (L2177 ++ (L2494 ++ (L2511 ++ (L2644 ++ []))))))))))))))))))) (all_app ((fun b hb => (.tail _ (.tail _ (List.mem_append_right _ (.tail _ (List.mem_append_left _ hb)))))) : ∀ b ∈ L2903, b ∈ (D2951 :: (a2924 :: (L2926 ++ (D2712 :: (L2903 ++ (a2077 :: (D2096 :: (D2340 :: (a2509 :: (D2531 :: (p2062 :: (p2278 :: (p2214 :: (L2079 ++ (L2177 ++ (L2494 ++ (L2511 ++ (L2644 ++ []))))))))))))))))))) (all_app ((fun b hb => (.tail _ (.tail _ (List.mem_append_left _ hb)))) : ∀ b ∈ L2926, b ∈ (D2951 :: (a2924 :: (L2926 ++ (D2712 :: (L2903 ++ (a2077 :: (D2096 :: (D2340 :: (a2509 :: (D2531 :: (p2062 :: (p2278 :: (p2214 :: (L2079 ++ (L2177 ++ (L2494 ++ (L2511 ++ (L2644 ++ []))))))))))))))))))) (all_app ((fun b hb => (.tail _ (.tail _ (List.mem_append_right _ (.tail _ (List.mem_append_right _ (.tail _ (.tail _ (.tail _ (.tail _ (.tail _ (.tail _ (.tail _ (.tail _ (List.mem_append_right _ (List.mem_append_right _ (List.mem_append_right _ (List.mem_append_right _ (List.mem_append_left _ hb))))))))))))))))))) : ∀ b ∈ L2644, b ∈ (D2951 :: (a2924 :: (L2926 ++ (D2712 :: (L2903 ++ (a2077 :: (D2096 :: (D2340 :: (a2509 :: (D2531 :: (p2062 :: (p2278 :: (p2214 :: (L2079 ++ (L2177 ++ (L2494 ++ (L2511 ++ (L2644 ++ []))))))))))))))))))) all_nil)))))))))))))))), h2962, h2963, h2964, h2965, h2966, h2967, h2968, h2969, h2959, w2970, w2971, w2972, w2973, w2974, OwAll.nil, all_nil, all_nil, e2958, hw⟩
                · intro i H2975 _ hw
                  obtain ⟨G2978, acc2980, vs2981, L2983, eG2979, S2976, h2987, h2988, h2989, h2990, h2991, h2992, h2993, h2994, h2977, w2995, w2996, w2997, w2998, w2999, d2982, nb2984, nd2985, eo2986, hw⟩ := hw
                  exact (SqL.of h2989)
                · intro i x H3000 hj hw
                  obtain ⟨G3003, acc3005, vs3006, L3008, eG3004, S3001, h3012, h3013, h3014, h3015, h3016, h3017, h3018, h3019, h3002, w3020, w3021, w3022, w3023, w3024, d3007, nb3009, nd3010, eo3011, hw⟩ := hw
                  obtain ⟨x3025, L3026, hx, w3027, hs3028⟩ := OwAll.turn w3022 hj
                  obtain ⟨b3029, rfl, rfl, h3030⟩ := Ow.toInts w3027
                  have hv3031 := hj
                  have hx3032 := hx
                  obtain ⟨z3033, hw⟩ := cW_mapA hx hw
                  have hw := cW_noEr hw
                  have hw : cW (F_law_c9  (x3025)) _ (fun _ => False) := hw
                  unfold F_law_c9 at hw
                  refine ⟨rfl, ?_⟩
                  refine tyes_go ?_
                  refine ⟨_, rfl, _, _, rfl, (SqL.of h3030), fun p3035 n3036 => ?_⟩
                  generalize g3037 : upd H3000 p3035 _ = H3038
                  obtain ⟨e3039, h3040⟩ := gen_new n3036 g3037
                  have h3041 : H3038 p3035 = some (.lst ((x3025 : (List Int)).map V.int)) := h3040
                  have fr3042 := S3001.free n3036
                  have S3043 := S3001.new n3036 e3039 h3041 fr3042
                  have w3044 : OwAll G3003 H3038 L3008 (vs3006) ((acc3005 : (List (List Int))).map (oL oI)) := (OwAll.mono (Same.refl _) (keeps_same e3039) d3007)
                  have h3045 := (e3039 _ _ h3002)
                  refine ⟨_, h3045, (app_len (OwAll.rpA w3044 (encO_L encO_I) S3043.sG) z3033), ?_⟩
                  generalize g3046 : upd H3038 D2951 _ = H3047
                  obtain ⟨x3048, h3049⟩ := gen_mut g3046
                  have S3050 := S3043.mut1 x3048 (.tail _ (.head _)) h3049
                  have hw := cW_ok hw
                  have h3051 := (x3048 _ _ (e3039 _ _ h3012) (ne_of_none h2943 n2952))
                  have h3052 := (x3048 _ _ (e3039 _ _ h3013) (ne_of_none h2945 n2952))
                  have h3053 := (x3048 _ _ (e3039 _ _ h3014) (ne_of_none h2940 n2952))
                  have h3054 := (x3048 _ _ (e3039 _ _ h3015) (ne_of_none h2936 n2952))
                  have h3055 := (x3048 _ _ (e3039 _ _ h3016) (ne_of_none (e2923 _ _ h2911) n2952))
                  have h3056 := (x3048 _ _ (e3039 _ _ h3017) (ne_of_none (e2923 _ _ h2912) n2952))
                  have h3057 := (x3048 _ _ (e3039 _ _ h3018) (ne_of_none (e2923 _ _ h2913) n2952))
                  have h3058 := (x3048 _ _ (e3039 _ _ h3019) (ne_of_none (e2923 _ _ h2914) n2952))
                  have w3059 : OwAll G3003 H3047 L2079 (vs2078) ((v2074 : (List (List Int))).map (oL oI)) := (OwAll.mono (Same.refl _) (keeps_mut x3048 ((there_ne (fun b_ hb_ => (S2939.ow b_ (((fun b hb => (.tail _ (List.mem_append_right _ (.tail _ (List.mem_append_right _ (.tail _ (.tail _ (.tail _ (.tail _ (.tail _ (.tail _ (.tail _ (.tail _ (List.mem_append_left _ hb)))))))))))))) : ∀ b ∈ L2079, b ∈ (a2924 :: (L2926 ++ (D2712 :: (L2903 ++ (a2077 :: (D2096 :: (D2340 :: (a2509 :: (D2531 :: (p2062 :: (p2278 :: (p2214 :: (L2079 ++ (L2177 ++ (L2494 ++ (L2511 ++ (L2644 ++ [])))))))))))))))))) b_ hb_)).2.1) n2952) : ∀ b ∈ L2079, b ≠ D2951)) (OwAll.mono (Same.refl _) (keeps_same e3039) w3020))
                  have w3060 : OwAll G3003 H3047 L2177 (vs2175) ((acc2174 : (List (List Int))).map (oL oI)) := (OwAll.mono (Same.refl _) (keeps_mut x3048 ((there_ne (fun b_ hb_ => (S2939.ow b_ (((fun b hb => (.tail _ (List.mem_append_right _ (.tail _ (List.mem_append_right _ (.tail _ (.tail _ (.tail _ (.tail _ (.tail _ (.tail _ (.tail _ (.tail _ (List.mem_append_right _ (List.mem_append_left _ hb))))))))))))))) : ∀ b ∈ L2177, b ∈ (a2924 :: (L2926 ++ (D2712 :: (L2903 ++ (a2077 :: (D2096 :: (D2340 :: (a2509 :: (D2531 :: (p2062 :: (p2278 :: (p2214 :: (L2079 ++ (L2177 ++ (L2494 ++ (L2511 ++ (L2644 ++ [])))))))))))))))))) b_ hb_)).2.1) n2952) : ∀ b ∈ L2177, b ≠ D2951)) (OwAll.mono (Same.refl _) (keeps_same e3039) w3021))
                  have w3061 : OwAll G3003 H3047 L2903 (vs2901) ((acc2900 : (List (List Int))).map (oL oI)) := (OwAll.mono (Same.refl _) (keeps_mut x3048 ((there_ne (fun b_ hb_ => (S2939.ow b_ (((fun b hb => (.tail _ (List.mem_append_right _ (.tail _ (List.mem_append_left _ hb))))) : ∀ b ∈ L2903, b ∈ (a2924 :: (L2926 ++ (D2712 :: (L2903 ++ (a2077 :: (D2096 :: (D2340 :: (a2509 :: (D2531 :: (p2062 :: (p2278 :: (p2214 :: (L2079 ++ (L2177 ++ (L2494 ++ (L2511 ++ (L2644 ++ [])))))))))))))))))) b_ hb_)).2.1) n2952) : ∀ b ∈ L2903, b ≠ D2951)) (OwAll.mono (Same.refl _) (keeps_same e3039) w3022))
                  have w3062 : OwAll G3003 H3047 L2926 (vs2925) ((v2921 : (List (List Int))).map (oL oI)) := (OwAll.mono (Same.refl _) (keeps_mut x3048 ((there_ne (fun b_ hb_ => (S2939.ow b_ (((fun b hb => (.tail _ (List.mem_append_left _ hb))) : ∀ b ∈ L2926, b ∈ (a2924 :: (L2926 ++ (D2712 :: (L2903 ++ (a2077 :: (D2096 :: (D2340 :: (a2509 :: (D2531 :: (p2062 :: (p2278 :: (p2214 :: (L2079 ++ (L2177 ++ (L2494 ++ (L2511 ++ (L2644 ++ [])))))))))))))))))) b_ hb_)).2.1) n2952) : ∀ b ∈ L2926, b ≠ D2951)) (OwAll.mono (Same.refl _) (keeps_same e3039) w3023))
                  have w3063 : OwAll G3003 H3047 L2644 (vs2642) ((setL (acc2641) (0) (setL ((itD (acc2641) (0))) (0) ((-1))) : (List (List Int))).map (oL oI)) := (OwAll.mono (Same.refl _) (keeps_mut x3048 ((there_ne (fun b_ hb_ => (S2939.ow b_ (((fun b hb => (.tail _ (List.mem_append_right _ (.tail _ (List.mem_append_right _ (.tail _ (.tail _ (.tail _ (.tail _ (.tail _ (.tail _ (.tail _ (.tail _ (List.mem_append_right _ (List.mem_append_right _ (List.mem_append_right _ (List.mem_append_right _ (List.mem_append_left _ hb)))))))))))))))))) : ∀ b ∈ L2644, b ∈ (a2924 :: (L2926 ++ (D2712 :: (L2903 ++ (a2077 :: (D2096 :: (D2340 :: (a2509 :: (D2531 :: (p2062 :: (p2278 :: (p2214 :: (L2079 ++ (L2177 ++ (L2494 ++ (L2511 ++ (L2644 ++ [])))))))))))))))))) b_ hb_)).2.1) n2952) : ∀ b ∈ L2644, b ≠ D2951)) (OwAll.mono (Same.refl _) (keeps_same e3039) w3024))
                  exact ⟨_, (acc3005 ++ [x3025]), _, (L3008 ++ (p3035 :: ([] : List Addr))), eG3004, (S3050.sub (all_cons (.tail _ (.head _)) (all_app (all_app ((fun b hb => (.tail _ (.tail _ (List.mem_append_left _ hb)))) : ∀ b ∈ L3008, b ∈ (p3035 :: (D2951 :: (L3008 ++ (a2077 :: (D2096 :: (D2712 :: (a2924 :: (D2531 :: (p2062 :: (p2278 :: (p2214 :: (L2079 ++ (L2177 ++ (L2903 ++ (L2926 ++ (L2644 ++ []))))))))))))))))) (all_cons (.head _) all_nil)) (all_cons (.tail _ (.tail _ (List.mem_append_right _ (.head _)))) (all_cons (.tail _ (.tail _ (List.mem_append_right _ (.tail _ (.head _))))) (all_cons (.tail _ (.tail _ (List.mem_append_right _ (.tail _ (.tail _ (.head _)))))) (all_cons (.tail _ (.tail _ (List.mem_append_right _ (.tail _ (.tail _ (.tail _ (.head _))))))) (all_cons (.tail _ (.tail _ (List.mem_append_right _ (.tail _ (.tail _ (.tail _ (.tail _ (.head _)))))))) (all_cons (.tail _ (.tail _ (List.mem_append_right _ (.tail _ (.tail _ (.tail _ (.tail _ (.tail _ (.head _))))))))) (all_cons (.tail _ (.tail _ (List.mem_append_right _ (.tail _ (.tail _ (.tail _ (.tail _ (.tail _ (.tail _ (.head _)))))))))) (all_cons (.tail _ (.tail _ (List.mem_append_right _ (.tail _ (.tail _ (.tail _ (.tail _ (.tail _ (.tail _ (.tail _ (.head _))))))))))) (all_app ((fun b hb => (.tail _ (.tail _ (List.mem_append_right _ (.tail _ (.tail _ (.tail _ (.tail _ (.tail _ (.tail _ (.tail _ (.tail _ (List.mem_append_left _ hb))))))))))))) : ∀ b ∈ L2079, b ∈ (p3035 :: (D2951 :: (L3008 ++ (a2077 :: (D2096 :: (D2712 :: (a2924 :: (D2531 :: (p2062 :: (p2278 :: (p2214 :: (L2079 ++ (L2177 ++ (L2903 ++ (L2926 ++ (L2644 ++ []))))))))))))))))) (all_app ((fun b hb => (.tail _ (.tail _ (List.mem_append_right _ (.tail _ (.tail _ (.tail _ (.tail _ (.tail _ (.tail _ (.tail _ (.tail _ (List.mem_append_right _ (List.mem_append_left _ hb)))))))))))))) : ∀ b ∈ L2177, b ∈ (p3035 :: (D2951 :: (L3008 ++ (a2077 :: (D2096 :: (D2712 :: (a2924 :: (D2531 :: (p2062 :: (p2278 :: (p2214 :: (L2079 ++ (L2177 ++ (L2903 ++ (L2926 ++ (L2644 ++ []))))))))))))))))) (all_app ((fun b hb => (.tail _ (.tail _ (List.mem_append_right _ (.tail _ (.tail _ (.tail _ (.tail _ (.tail _ (.tail _ (.tail _ (.tail _ (List.mem_append_right _ (List.mem_append_right _ (List.mem_append_left _ hb))))))))))))))) : ∀ b ∈ L2903, b ∈ (p3035 :: (D2951 :: (L3008 ++ (a2077 :: (D2096 :: (D2712 :: (a2924 :: (D2531 :: (p2062 :: (p2278 :: (p2214 :: (L2079 ++ (L2177 ++ (L2903 ++ (L2926 ++ (L2644 ++ []))))))))))))))))) (all_app ((fun b hb => (.tail _ (.tail _ (List.mem_append_right _ (.tail _ (.tail _ (.tail _ (.tail _ (.tail _ (.tail _ (.tail _ (.tail _ (List.mem_append_right _ (List.mem_append_right _ (List.mem_append_right _ (List.mem_append_left _ hb)))))))))))))))) : ∀ b ∈ L2926, b ∈ (p3035 :: (D2951 :: (L3008 ++ (a2077 :: (D2096 :: (D2712 :: (a2924 :: (D2531 :: (p2062 :: (p2278 :: (p2214 :: (L2079 ++ (L2177 ++ (L2903 ++ (L2926 ++ (L2644 ++ []))))))))))))))))) (all_app ((fun b hb => (.tail _ (.tail _ (List.mem_append_right _ (.tail _ (.tail _ (.tail _ (.tail _ (.tail _ (.tail _ (.tail _ (.tail _ (List.mem_append_right _ (List.mem_append_right _ (List.mem_append_right _ (List.mem_append_right _ (List.mem_append_left _ hb))))))))))))))))) : ∀ b ∈ L2644, b ∈ (p3035 :: (D2951 :: (L3008 ++ (a2077 :: (D2096 :: (D2712 :: (a2924 :: (D2531 :: (p2062 :: (p2278 :: (p2214 :: (L2079 ++ (L2177 ++ (L2903 ++ (L2926 ++ (L2644 ++ []))))))))))))))))) all_nil)))))))))))))))), h3051, h3052, h3053, h3054, h3055, h3056, h3057, h3058, h3049, w3059, w3060, w3061, w3062, w3063, (OwAll.mono (Same.refl _) (keeps_mut x3048 ((all_app nd3010 (all_cons (ne_of_none h3002 n3036).symm all_nil)) : ∀ b ∈ (L3008 ++ (p3035 :: ([] : List Addr))), b ≠ D2951)) (OwAll.snocM w3044 (Ow.ints h3041) ((fun b hb => (nm_cons ((there_ne (fun b_ hb_ => (S3001.ow b_ (((fun b hb => (.tail _ (List.mem_append_left _ hb))) : ∀ b ∈ L3008, b ∈ (D2951 :: (L3008 ++ (a2077 :: (D2096 :: (D2712 :: (a2924 :: (D2531 :: (p2062 :: (p2278 :: (p2214 :: (L2079 ++ (L2177 ++ (L2903 ++ (L2926 ++ (L2644 ++ [])))))))))))))))) b_ hb_)).2.1) n3036) b hb) nm_nil)) : ∀ b ∈ L3008, b ∉ (p3035 :: ([] : List Addr))))), ((all_app nb3009 (all_cons (none_of_same eo3011 n3036) all_nil)) : ∀ b ∈ (L3008 ++ (p3035 :: ([] : List Addr))), H2922 b = none), ((all_app nd3010 (all_cons (ne_of_none h3002 n3036).symm all_nil)) : ∀ b ∈ (L3008 ++ (p3035 :: ([] : List Addr))), b ≠ D2951), (same_mut (Same.trans eo3011 e3039) x3048 n2952), hw⟩
                intro H3064 hw
                obtain ⟨G3067, acc3069, vs3070, L3072, eG3068, S3065, h3076, h3077, h3078, h3079, h3080, h3081, h3082, h3083, h3066, w3084, w3085, w3086, w3087, w3088, d3071, nb3073, nd3074, eo3075, hw⟩ := hw
                have hw := hK2950 _ (cW_mapA0 (by rw [(OwAll.rpA w3086 (encO_L encO_I) S3065.sG).len, List.length_map]) hw)
                have fr3089 := S2939.free n2952
                obtain ⟨g3090, hw⟩ := cW_grd hw
                obtain ⟨v3091, L3092, a3093, w3094, hs3095, up3096, gr3097⟩ := OwAll.partM (k := (-1)) w3087 g3090
                obtain ⟨b3098, rfl, rfl, h3099⟩ := Ow.toInts w3094
                obtain ⟨g3100, hw⟩ := cW_grd hw
                refine ⟨_, rfl, _, rfl, _, rfl, _, _, _, _, rfl, rfl, (SqL.of h3079), a3093, _, _, _, _, rfl, rfl, h3099, (ixN_map g3100), ?_⟩
                generalize g3101 : upd H3064 b3098 _ = H3102
                obtain ⟨x3103, h3104⟩ := gen_mut g3101
                have h3105 : H3102 b3098 = some (.lst ((setL ((itD (v2921) ((-1)))) (0) ((-1)) : (List Int)).map V.int)) := set_map h3104
                have S3106 := S3065.mut1 x3103 ((((fun b hb => (.tail _ (List.mem_append_right _ (.tail _ (.tail _ (.tail _ (.tail _ (.tail _ (.tail _ (.tail _ (.tail _ (List.mem_append_right _ (List.mem_append_right _ (List.mem_append_right _ (List.mem_append_left _ hb))))))))))))))) : ∀ b ∈ L2926, b ∈ (D2951 :: (L3072 ++ (a2077 :: (D2096 :: (D2712 :: (a2924 :: (D2531 :: (p2062 :: (p2278 :: (p2214 :: (L2079 ++ (L2177 ++ (L2903 ++ (L2926 ++ (L2644 ++ [])))))))))))))))) : ∀ b ∈ L2926, b ∈ (D2951 :: (L3072 ++ (a2077 :: (D2096 :: (D2712 :: (a2924 :: (D2531 :: (p2062 :: (p2278 :: (p2214 :: (L2079 ++ (L2177 ++ (L2903 ++ (L2926 ++ (L2644 ++ [])))))))))))))))) _ (hs3095 _ List.mem_cons_self)) h3105
                have w3107 : OwAll G3067 H3102 L2926 (vs2925) ((setL (v2921) ((-1)) (setL ((itD (v2921) ((-1)))) (0) ((-1))) : (List (List Int))).map (oL oI)) := upd_tree up3096 x3103 List.mem_cons_self (Ow.ints h3105)
                have hw := cW_bnd hw
                obtain ⟨g3109, hw⟩ := cW_grd hw
                have w3110 : OwAll G3067 H3102 L3072 (vs3070) ((acc3069 : (List (List Int))).map (oL oI)) := (OwAll.mono (Same.refl _) (keeps_mut x3103 ((fun b hb z => (fun b hb => ((new_nl nb3073 (fun b_ hb_ => (S2939.ow b_ (((fun b hb => (.tail _ (List.mem_append_left _ hb))) : ∀ b ∈ L2926, b ∈ (a2924 :: (L2926 ++ (D2712 :: (L2903 ++ (a2077 :: (D2096 :: (D2340 :: (a2509 :: (D2531 :: (p2062 :: (p2278 :: (p2214 :: (L2079 ++ (L2177 ++ (L2494 ++ (L2511 ++ (L2644 ++ [])))))))))))))))))) b_ hb_)).2.1)) b hb)) b hb (z ▸ (hs3095 _ List.mem_cons_self))) : ∀ b ∈ L3072, b ≠ b3098)) d3071)
                obtain ⟨v3111, L3112, a3113, w3114, hs3115, up3116, gr3117⟩ := OwAll.partM (k := (-1)) w3110 g3109
                have h3118 := (x3103 _ _ h3066 ((there_ne (fun b_ hb_ => (S2939.ow b_ (((fun b hb => (.tail _ (List.mem_append_left _ hb))) : ∀ b ∈ L2926, b ∈ (a2924 :: (L2926 ++ (D2712 :: (L2903 ++ (a2077 :: (D2096 :: (D2340 :: (a2509 :: (D2531 :: (p2062 :: (p2278 :: (p2214 :: (L2079 ++ (L2177 ++ (L2494 ++ (L2511 ++ (L2644 ++ [])))))))))))))))))) b_ hb_)).2.1) n2952) _ (hs3095 _ List.mem_cons_self)).symm)
                obtain ⟨b3119, rfl, rfl, h3120⟩ := Ow.toInts w3114
                obtain ⟨g3121, hw⟩ := cW_grd hw
                refine ⟨_, rfl, _, rfl, _, rfl, _, _, _, _, rfl, rfl, (SqL.of h3118), a3113, _, _, _, _, rfl, rfl, h3120, (ixN_map g3121), ?_⟩
                generalize g3122 : upd H3102 b3119 _ = H3123
                obtain ⟨x3124, h3125⟩ := gen_mut g3122
                have h3126 : H3123 b3119 = some (.lst ((setL ((itD (acc3069) ((-1)))) (0) ((-1)) : (List Int)).map V.int)) := set_map h3125
                have S3127 := S3106.mut1 x3124 ((((fun b hb => (.tail _ (List.mem_append_left _ hb))) : ∀ b ∈ L3072, b ∈ (D2951 :: (L3072 ++ (a2077 :: (D2096 :: (D2712 :: (a2924 :: (D2531 :: (p2062 :: (p2278 :: (p2214 :: (L2079 ++ (L2177 ++ (L2903 ++ (L2926 ++ (L2644 ++ [])))))))))))))))) : ∀ b ∈ L3072, b ∈ (D2951 :: (L3072 ++ (a2077 :: (D2096 :: (D2712 :: (a2924 :: (D2531 :: (p2062 :: (p2278 :: (p2214 :: (L2079 ++ (L2177 ++ (L2903 ++ (L2926 ++ (L2644 ++ [])))))))))))))))) _ (hs3115 _ List.mem_cons_self)) h3126
                have w3128 : OwAll G3067 H3123 L3072 (vs3070) ((setL (acc3069) ((-1)) (setL ((itD (acc3069) ((-1)))) (0) ((-1))) : (List (List Int))).map (oL oI)) := upd_tree up3116 x3124 List.mem_cons_self (Ow.ints h3126)
                have hw := cW_bnd hw
                have h3130 := (x3124 _ _ (x3103 _ _ h3079 (nd2930 _ (hs3095 _ List.mem_cons_self)).symm) ((new_ne2 nb3073 (S2939.ow _ (.head _)).2.1) _ (hs3115 _ List.mem_cons_self)).symm)
                have w3131 : OwAll G3067 H3123 L2926 (vs2925) ((setL (v2921) ((-1)) (setL ((itD (v2921) ((-1)))) (0) ((-1))) : (List (List Int))).map (oL oI)) := (OwAll.mono (Same.refl _) (keeps_mut x3124 ((fun b hb z => (fun b hb => ((nl_symm (new_nl nb3073 (fun b_ hb_ => (S2939.ow b_ (((fun b hb => (.tail _ (List.mem_append_left _ hb))) : ∀ b ∈ L2926, b ∈ (a2924 :: (L2926 ++ (D2712 :: (L2903 ++ (a2077 :: (D2096 :: (D2340 :: (a2509 :: (D2531 :: (p2062 :: (p2278 :: (p2214 :: (L2079 ++ (L2177 ++ (L2494 ++ (L2511 ++ (L2644 ++ [])))))))))))))))))) b_ hb_)).2.1))) b hb)) b hb (z ▸ (hs3115 _ List.mem_cons_self))) : ∀ b ∈ L2926, b ≠ b3119)) w3107)
                have h3132 := (x3124 _ _ h3118 (nd3074 _ (hs3115 _ List.mem_cons_self)).symm)
                refine ⟨_, rfl, _, rfl, _, _, (rp_mk_list h3130 (OwAll.rpA w3131 (encO_L encO_I) S3127.sG)), (rp_mk_list h3132 (OwAll.rpA w3128 (encO_L encO_I) S3127.sG)), _, rfl, ?_⟩
                refine iteN (fun c3133 => ?_) (fun c3133 => ?_)
                · have hw := cW_neg c3133 hw
                  have hw := cW_ok hw
                  have hw := hK2264 (.rt _) hw
                  have hw := hK2227 (.rt _) hw
                  have hw := cW_ok hw
                  exact eq_bl (k _) (hK0 _ hw).symm
                · have hw := cW_pos c3133 hw
                  have h3134 := (x3124 _ _ (x3103 _ _ h3076 ((new_ne2 nb2929 (S2896.ow _ (.tail _ (List.mem_append_right _ (.head _)))).2.1) _ (hs3095 _ List.mem_cons_self)).symm) ((new_ne2 nb3073 (S2939.ow _ (.tail _ (List.mem_append_right _ (.tail _ (List.mem_append_right _ (.head _)))))).2.1) _ (hs3115 _ List.mem_cons_self)).symm)
                  have w3135 : OwAll G3067 H3123 L2079 (vs2078) ((v2074 : (List (List Int))).map (oL oI)) := (OwAll.mono (Same.refl _) (keeps_mut x3124 ((fun b hb z => (fun b hb => ((nl_symm (new_nl nb3073 (fun b_ hb_ => (S2939.ow b_ (((fun b hb => (.tail _ (List.mem_append_right _ (.tail _ (List.mem_append_right _ (.tail _ (.tail _ (.tail _ (.tail _ (.tail _ (.tail _ (.tail _ (.tail _ (List.mem_append_left _ hb)))))))))))))) : ∀ b ∈ L2079, b ∈ (a2924 :: (L2926 ++ (D2712 :: (L2903 ++ (a2077 :: (D2096 :: (D2340 :: (a2509 :: (D2531 :: (p2062 :: (p2278 :: (p2214 :: (L2079 ++ (L2177 ++ (L2494 ++ (L2511 ++ (L2644 ++ [])))))))))))))))))) b_ hb_)).2.1))) b hb)) b hb (z ▸ (hs3115 _ List.mem_cons_self))) : ∀ b ∈ L2079, b ≠ b3119)) (OwAll.mono (Same.refl _) (keeps_mut x3103 ((fun b hb z => (fun b hb => ((nl_symm (new_nl nb2929 (fun b_ hb_ => (S2896.ow b_ (((fun b hb => (.tail _ (List.mem_append_right _ (.tail _ (.tail _ (.tail _ (.tail _ (.tail _ (.tail _ (.tail _ (.tail _ (List.mem_append_left _ hb)))))))))))) : ∀ b ∈ L2079, b ∈ (D2712 :: (L2903 ++ (a2077 :: (D2096 :: (D2340 :: (a2509 :: (D2531 :: (p2062 :: (p2278 :: (p2214 :: (L2079 ++ (L2177 ++ (L2494 ++ (L2511 ++ (L2644 ++ [])))))))))))))))) b_ hb_)).2.1))) b hb)) b hb (z ▸ (hs3095 _ List.mem_cons_self))) : ∀ b ∈ L2079, b ≠ b3098)) w3084))
                  have h3136 := (x3124 _ _ (x3103 _ _ h3077 ((new_ne2 nb2929 (S2896.ow _ (.tail _ (List.mem_append_right _ (.tail _ (.head _))))).2.1) _ (hs3095 _ List.mem_cons_self)).symm) ((new_ne2 nb3073 (S2939.ow _ (.tail _ (List.mem_append_right _ (.tail _ (List.mem_append_right _ (.tail _ (.head _))))))).2.1) _ (hs3115 _ List.mem_cons_self)).symm)
                  have w3137 : OwAll G3067 H3123 L2177 (vs2175) ((acc2174 : (List (List Int))).map (oL oI)) := (OwAll.mono (Same.refl _) (keeps_mut x3124 ((fun b hb z => (fun b hb => ((nl_symm (new_nl nb3073 (fun b_ hb_ => (S2939.ow b_ (((fun b hb => (.tail _ (List.mem_append_right _ (.tail _ (List.mem_append_right _ (.tail _ (.tail _ (.tail _ (.tail _ (.tail _ (.tail _ (.tail _ (.tail _ (List.mem_append_right _ (List.mem_append_left _ hb))))))))))))))) : ∀ b ∈ L2177, b ∈ (a2924 :: (L2926 ++ (D2712 :: (L2903 ++ (a2077 :: (D2096 :: (D2340 :: (a2509 :: (D2531 :: (p2062 :: (p2278 :: (p2214 :: (L2079 ++ (L2177 ++ (L2494 ++ (L2511 ++ (L2644 ++ [])))))))))))))))))) b_ hb_)).2.1))) b hb)) b hb (z ▸ (hs3115 _ List.mem_cons_self))) : ∀ b ∈ L2177, b ≠ b3119)) (OwAll.mono (Same.refl _) (keeps_mut x3103 ((fun b hb z => (fun b hb => ((nl_symm (new_nl nb2929 (fun b_ hb_ => (S2896.ow b_ (((fun b hb => (.tail _ (List.mem_append_right _ (.tail _ (.tail _ (.tail _ (.tail _ (.tail _ (.tail _ (.tail _ (.tail _ (List.mem_append_right _ (List.mem_append_left _ hb))))))))))))) : ∀ b ∈ L2177, b ∈ (D2712 :: (L2903 ++ (a2077 :: (D2096 :: (D2340 :: (a2509 :: (D2531 :: (p2062 :: (p2278 :: (p2214 :: (L2079 ++ (L2177 ++ (L2494 ++ (L2511 ++ (L2644 ++ [])))))))))))))))) b_ hb_)).2.1))) b hb)) b hb (z ▸ (hs3095 _ List.mem_cons_self))) : ∀ b ∈ L2177, b ≠ b3098)) w3085))
                  refine ⟨_, rfl, _, rfl, _, _, (rp_mk_list h3134 (OwAll.rpA w3135 (encO_L encO_I) S3127.sG)), (rp_mk_list h3136 (OwAll.rpA w3137 (encO_L encO_I) S3127.sG)), _, rfl, ?_⟩
                  refine iteN (fun c3138 => ?_) (fun c3138 => ?_)
                  · have hw := cW_neg c3138 hw
                    refine iteT ?_
                    have hw := cW_ok hw
                    have hw := hK2264 (.rt _) hw
                    have hw := hK2227 (.rt _) hw
                    have hw := cW_ok hw
                    exact eq_bl (k _) (hK0 _ hw).symm
                  · have hw := cW_pos c3138 hw
                    refine ⟨_, rfl, _, rfl, _, rfl, _, rfl, _, rfl, _, rfl, rfl, rfl, G3067, _, _, _, _, _, _, _, rfl, S3127.sG, (Rp.hide_nil (rp_mk_list h3134 (OwAll.rpA w3135 (encO_L encO_I) S3127.sG))), cW_call hw (fun v3139 hw H3140 a3142 vs3143 L3144 G3145 n3146 nb3147 nd3148 e3141 eG3149 sG3150 hn3151 ga3152 gL3153 h3154 w3155 => ?_) (fun e he => (hE e he).elim)⟩
                    have fr3156 := S3127.free n3146
                    have S3157 : Sep _ _ _ _ H3140 (a3142 :: (L3144 ++ (D2951 :: (L3072 ++ (a2077 :: (D2096 :: (D2712 :: (a2924 :: (D2531 :: (p2062 :: (p2278 :: (p2214 :: (L2079 ++ (L2177 ++ (L2903 ++ (L2926 ++ (L2644 ++ []))))))))))))))))) := Sep.steptree S3127 e3141 eG3149 sG3150 hn3151 (a3142 :: L3144) (all_cons ⟨n3146, ga3152, some_ne h3154⟩ (fun b hb => ⟨nb3147 b hb, gL3153 b hb, OwAll.there w3155 b hb⟩))
                    have h3158 := (e3141 _ _ (x3124 _ _ (x3103 _ _ h3078 ((new_ne2 nb2929 (S2896.ow _ (.head _)).2.1) _ (hs3095 _ List.mem_cons_self)).symm) ((new_ne2 nb3073 (S2939.ow _ (.tail _ (List.mem_append_right _ (.head _)))).2.1) _ (hs3115 _ List.mem_cons_self)).symm))
                    have w3159 : OwAll G3145 H3140 L2903 (vs2901) ((acc2900 : (List (List Int))).map (oL oI)) := (OwAll.mono eG3149 keeps_refl (OwAll.mono (Same.refl _) (keeps_same e3141) (OwAll.mono (Same.refl _) (keeps_mut x3124 ((fun b hb z => (fun b hb => ((nl_symm (new_nl nb3073 (fun b_ hb_ => (S2939.ow b_ (((fun b hb => (.tail _ (List.mem_append_right _ (.tail _ (List.mem_append_left _ hb))))) : ∀ b ∈ L2903, b ∈ (a2924 :: (L2926 ++ (D2712 :: (L2903 ++ (a2077 :: (D2096 :: (D2340 :: (a2509 :: (D2531 :: (p2062 :: (p2278 :: (p2214 :: (L2079 ++ (L2177 ++ (L2494 ++ (L2511 ++ (L2644 ++ [])))))))))))))))))) b_ hb_)).2.1))) b hb)) b hb (z ▸ (hs3115 _ List.mem_cons_self))) : ∀ b ∈ L2903, b ≠ b3119)) (OwAll.mono (Same.refl _) (keeps_mut x3103 ((fun b hb z => (fun b hb => ((nl_symm (new_nl nb2929 (fun b_ hb_ => (S2896.ow b_ (((fun b hb => (.tail _ (List.mem_append_left _ hb))) : ∀ b ∈ L2903, b ∈ (D2712 :: (L2903 ++ (a2077 :: (D2096 :: (D2340 :: (a2509 :: (D2531 :: (p2062 :: (p2278 :: (p2214 :: (L2079 ++ (L2177 ++ (L2494 ++ (L2511 ++ (L2644 ++ [])))))))))))))))) b_ hb_)).2.1))) b hb)) b hb (z ▸ (hs3095 _ List.mem_cons_self))) : ∀ b ∈ L2903, b ≠ b3098)) w3086))))
                    refine ⟨_, rfl, _, _, (rp_mk_list h3154 (OwAll.rpA w3155 (encO_L encO_I) S3157.sG)), (rp_mk_list h3158 (OwAll.rpA w3159 (encO_L encO_I) S3157.sG)), _, rfl, ?_⟩
                    refine iteN (fun c3160 => ?_) (fun c3160 => ?_)
                    · have hw := cW_neg c3160 hw
                      have hw := cW_ok hw
                      have hw := hK2264 (.rt _) hw
                      have hw := hK2227 (.rt _) hw
                      have hw := cW_ok hw
                      exact eq_bl (k _) (hK0 _ hw).symm
                    · have hw := cW_pos c3160 hw
                      have hw := cW_ok hw
                      have hw := hK2264 _ hw
                      have h3161 := (e3141 _ _ (x3124 _ _ (x3103 _ _ h3081 ((new_ne2 nb2929 (S2896.ow _ (.tail _ (List.mem_append_right _ (.tail _ (.tail _ (.tail _ (.tail _ (.tail _ (.head _))))))))).2.1) _ (hs3095 _ List.mem_cons_self)).symm) ((new_ne2 nb3073 (S2939.ow _ (.tail _ (List.mem_append_right _ (.tail _ (List.mem_append_right _ (.tail _ (.tail _ (.tail _ (.tail _ (.tail _ (.head _))))))))))).2.1) _ (hs3115 _ List.mem_cons_self)).symm))
                      have h3162 := (e3141 _ _ h3134)
                      have h3163 := (e3141 _ _ h3136)
                      have h3164 := (e3141 _ _ (x3124 _ _ (x3103 _ _ h3083 ((new_ne2 nb2929 (S2896.ow _ (.tail _ (List.mem_append_right _ (.tail _ (.tail _ (.tail _ (.tail _ (.tail _ (.tail _ (.tail _ (.head _))))))))))).2.1) _ (hs3095 _ List.mem_cons_self)).symm) ((new_ne2 nb3073 (S2939.ow _ (.tail _ (List.mem_append_right _ (.tail _ (List.mem_append_right _ (.tail _ (.tail _ (.tail _ (.tail _ (.tail _ (.tail _ (.tail _ (.head _))))))))))))).2.1) _ (hs3115 _ List.mem_cons_self)).symm))
                      have w3165 : OwAll G3145 H3140 L2079 (vs2078) ((v2074 : (List (List Int))).map (oL oI)) := (OwAll.mono eG3149 keeps_refl (OwAll.mono (Same.refl _) (keeps_same e3141) w3135))
                      have w3166 : OwAll G3145 H3140 L2177 (vs2175) ((acc2174 : (List (List Int))).map (oL oI)) := (OwAll.mono eG3149 keeps_refl (OwAll.mono (Same.refl _) (keeps_same e3141) w3137))
                      exact ⟨_, _, _, _, _, _, _, _, _, _, rfl, (Same.trans (Same.trans (Same.trans (Same.trans (Same.trans (Same.trans (Same.trans (Same.trans eG2261 eG2326) eG2490) eG2516) eG2640) eG2899) eG2931) eG3068) eG3149), (S3157.sub (all_cons (.tail _ (List.mem_append_right _ (.tail _ (List.mem_append_right _ (.tail _ (.tail _ (.tail _ (.tail _ (.tail _ (.head _)))))))))) (all_cons (.tail _ (List.mem_append_right _ (.tail _ (List.mem_append_right _ (.head _))))) (all_cons (.tail _ (List.mem_append_right _ (.tail _ (List.mem_append_right _ (.tail _ (.head _)))))) (all_cons (.tail _ (List.mem_append_right _ (.tail _ (List.mem_append_right _ (.tail _ (.tail _ (.tail _ (.tail _ (.tail _ (.tail _ (.tail _ (.head _)))))))))))) (all_app ((fun b hb => (.tail _ (List.mem_append_right _ (.tail _ (List.mem_append_right _ (.tail _ (.tail _ (.tail _ (.tail _ (.tail _ (.tail _ (.tail _ (.tail _ (List.mem_append_left _ hb)))))))))))))) : ∀ b ∈ L2079, b ∈ (a3142 :: (L3144 ++ (D2951 :: (L3072 ++ (a2077 :: (D2096 :: (D2712 :: (a2924 :: (D2531 :: (p2062 :: (p2278 :: (p2214 :: (L2079 ++ (L2177 ++ (L2903 ++ (L2926 ++ (L2644 ++ [])))))))))))))))))) (all_app ((fun b hb => (.tail _ (List.mem_append_right _ (.tail _ (List.mem_append_right _ (.tail _ (.tail _ (.tail _ (.tail _ (.tail _ (.tail _ (.tail _ (.tail _ (List.mem_append_right _ (List.mem_append_left _ hb))))))))))))))) : ∀ b ∈ L2177, b ∈ (a3142 :: (L3144 ++ (D2951 :: (L3072 ++ (a2077 :: (D2096 :: (D2712 :: (a2924 :: (D2531 :: (p2062 :: (p2278 :: (p2214 :: (L2079 ++ (L2177 ++ (L2903 ++ (L2926 ++ (L2644 ++ [])))))))))))))))))) all_nil))))))), h3161, h3162, h3163, h3164, w3165, w3166, hw⟩
    · intro σ H3167 hw
      obtain ⟨u2228, u2229, u2230, u2231, u2232, u2233, u2234, u2235, u2236, G3175, rfl, eG3176, S3168, h3169, h3170, h3171, h3172, w3173, w3174, hw⟩ := hw
      have hw := cW_aftgo (hK2227 _ (cW_forR0 (by rw [List.length_map]) hw))
      have hw : cW (F_law_r2  ) _ EE := hw
      unfold F_law_r2 at hw
      have hw := cW_ok hw
      exact eq_bl (k _) (hK0 _ hw).symm
end
def spL (K : PySem.W.Frag) : Sp := fun vs H Q _ => ∃ (a_script : Addr) (script : List Int), vs = [.ref a_script] ∧ SqL K H a_script (script.map V.int) ∧ script.length ≤ 63 ∧ ∀ H', Q (.bl true) H'
theorem all_mk {l : PySem.W.OpenLaw} {w : World} {K : PySem.W.Frag} {h : Heap} {mg : Str → Option Value} {fa : Addr} (X : K.In h) (G : h.Ns mainGlobals mg) (hfa : mg "law" = some (.ref fa))
    {f0 f1 f2 f3 f4 f5 f6 f7 f8 f9 f10 f11 : Addr} {od0 an0 od1 an1 od2 an2 od3 an3 od4 an4 od5 an5 od6 an6 od7 an7 od8 an8 od9 an9 od10 an10 od11 an11 : Option Addr} {sl0 sl1 sl2 sl3 sl4 sl5 sl6 sl7 sl8 sl9 sl10 sl11 : Array (Option Value)} {oc0 kV0 dc0 pm0 cd0 ct0 oc1 kV1 dc1 pm1 cd1 ct1 oc2 kV2 dc2 pm2 cd2 ct2 oc3 kV3 dc3 pm3 cd3 ct3 oc4 kV4 dc4 pm4 cd4 ct4 oc5 kV5 dc5 pm5 cd5 ct5 oc6 kV6 dc6 pm6 cd6 ct6 oc7 kV7 dc7 pm7 cd7 ct7 oc8 kV8 dc8 pm8 cd8 ct8 oc9 kV9 dc9 pm9 cd9 ct9 oc10 kV10 dc10 pm10 cd10 ct10 oc11 kV11 dc11 pm11 cd11 ct11 : Value} {TG_WEIGHTS : Addr} {td7 : Option Addr} {tn7 : Nat} {tsl7 : Array (Option Value)} {TG_WEIGHTS_0 : Addr} {td7_0 : Option Addr} {tn7_0 : Nat} {tsl7_0 : Array (Option Value)} {tk7_0_0 tk7_0_1 tk7_0_2 tk7_0_3 tk7_0_4 tk7_0_5 : Tok} {TG_WEIGHTS_1 : Addr} {td7_1 : Option Addr} {tn7_1 : Nat} {tsl7_1 : Array (Option Value)} {tk7_1_0 tk7_1_1 tk7_1_2 tk7_1_3 tk7_1_4 tk7_1_5 : Tok} {TG_WEIGHTS_2 : Addr} {td7_2 : Option Addr} {tn7_2 : Nat} {tsl7_2 : Array (Option Value)} {tk7_2_0 tk7_2_1 tk7_2_2 tk7_2_3 tk7_2_4 tk7_2_5 : Tok} {TG_WEIGHTS_3 : Addr} {td7_3 : Option Addr} {tn7_3 : Nat} {tsl7_3 : Array (Option Value)} {tk7_3_0 tk7_3_1 tk7_3_2 tk7_3_3 tk7_3_4 tk7_3_5 : Tok}
    (a0 : PySem.W.nsIn K mainGlobals "_law_draws" = some (some (.ref f0))) (l0 : K.lookup f0 = some ⟨oc0, od0, .func (PySem.W.fnOf "_law_draws" "_law_draws" (defArgs s__law_draws) (defBody s__law_draws) (defScope s__law_draws) .none kV0 dc0 pm0 an0 cd0 ct0), sl0⟩) (c0 : PySem.W.codeIn K cd0 "_law_draws" = true) (k0 : PySem.W.keepIn K (.ref f0) = true) (a1 : PySem.W.nsIn K mainGlobals "_law_plane" = some (some (.ref f1))) (l1 : K.lookup f1 = some ⟨oc1, od1, .func (PySem.W.fnOf "_law_plane" "_law_plane" (defArgs s__law_plane) (defBody s__law_plane) (defScope s__law_plane) .none kV1 dc1 pm1 an1 cd1 ct1), sl1⟩) (c1 : PySem.W.codeIn K cd1 "_law_plane" = true) (k1 : PySem.W.keepIn K (.ref f1) = true) (a2 : PySem.W.nsIn K mainGlobals "_law_cell" = some (some (.ref f2))) (l2 : K.lookup f2 = some ⟨oc2, od2, .func (PySem.W.fnOf "_law_cell" "_law_cell" (defArgs s__law_cell) (defBody s__law_cell) (defScope s__law_cell) .none kV2 dc2 pm2 an2 cd2 ct2), sl2⟩) (c2 : PySem.W.codeIn K cd2 "_law_cell" = true) (k2 : PySem.W.keepIn K (.ref f2) = true) (a3 : PySem.W.nsIn K mainGlobals "clip" = some (some (.ref f3))) (l3 : K.lookup f3 = some ⟨oc3, od3, .func (PySem.W.fnOf "clip" "clip" (defArgs s_clip) (defBody s_clip) (defScope s_clip) .none kV3 dc3 pm3 an3 cd3 ct3), sl3⟩) (c3 : PySem.W.codeIn K cd3 "clip" = true) (k3 : PySem.W.keepIn K (.ref f3) = true) (a4 : PySem.W.nsIn K mainGlobals "_samples" = some (some (.ref f4))) (l4 : K.lookup f4 = some ⟨oc4, od4, .func (PySem.W.fnOf "_samples" "_samples" (defArgs s__samples) (defBody s__samples) (defScope s__samples) .none kV4 dc4 pm4 an4 cd4 ct4), sl4⟩) (c4 : PySem.W.codeIn K cd4 "_samples" = true) (k4 : PySem.W.keepIn K (.ref f4) = true) (a5 : PySem.W.nsIn K mainGlobals "_weighted" = some (some (.ref f5))) (l5 : K.lookup f5 = some ⟨oc5, od5, .func (PySem.W.fnOf "_weighted" "_weighted" (defArgs s__weighted) (defBody s__weighted) (defScope s__weighted) .none kV5 dc5 pm5 an5 cd5 ct5), sl5⟩) (c5 : PySem.W.codeIn K cd5 "_weighted" = true) (k5 : PySem.W.keepIn K (.ref f5) = true) (a6 : PySem.W.nsIn K mainGlobals "quarter_area" = some (some (.ref f6))) (l6 : K.lookup f6 = some ⟨oc6, od6, .func (PySem.W.fnOf "quarter_area" "quarter_area" (defArgs s_quarter_area) (defBody s_quarter_area) (defScope s_quarter_area) .none kV6 dc6 pm6 an6 cd6 ct6), sl6⟩) (c6 : PySem.W.codeIn K cd6 "quarter_area" = true) (k6 : PySem.W.keepIn K (.ref f6) = true) (a7 : PySem.W.nsIn K mainGlobals "eighth_area" = some (some (.ref f7))) (l7 : K.lookup f7 = some ⟨oc7, od7, .func (PySem.W.fnOf "eighth_area" "eighth_area" (defArgs s_eighth_area) (defBody s_eighth_area) (defScope s_eighth_area) .none kV7 dc7 pm7 an7 cd7 ct7), sl7⟩) (c7 : PySem.W.codeIn K cd7 "eighth_area" = true) (k7 : PySem.W.keepIn K (.ref f7) = true) (a8 : PySem.W.nsIn K mainGlobals "_law_at" = some (some (.ref f8))) (l8 : K.lookup f8 = some ⟨oc8, od8, .func (PySem.W.fnOf "_law_at" "_law_at" (defArgs s__law_at) (defBody s__law_at) (defScope s__law_at) .none kV8 dc8 pm8 an8 cd8 ct8), sl8⟩) (c8 : PySem.W.codeIn K cd8 "_law_at" = true) (k8 : PySem.W.keepIn K (.ref f8) = true) (a9 : PySem.W.nsIn K mainGlobals "_law_quarter" = some (some (.ref f9))) (l9 : K.lookup f9 = some ⟨oc9, od9, .func (PySem.W.fnOf "_law_quarter" "_law_quarter" (defArgs s__law_quarter) (defBody s__law_quarter) (defScope s__law_quarter) .none kV9 dc9 pm9 an9 cd9 ct9), sl9⟩) (c9 : PySem.W.codeIn K cd9 "_law_quarter" = true) (k9 : PySem.W.keepIn K (.ref f9) = true) (a10 : PySem.W.nsIn K mainGlobals "_law_eighth" = some (some (.ref f10))) (l10 : K.lookup f10 = some ⟨oc10, od10, .func (PySem.W.fnOf "_law_eighth" "_law_eighth" (defArgs s__law_eighth) (defBody s__law_eighth) (defScope s__law_eighth) .none kV10 dc10 pm10 an10 cd10 ct10), sl10⟩) (c10 : PySem.W.codeIn K cd10 "_law_eighth" = true) (k10 : PySem.W.keepIn K (.ref f10) = true) (a11 : PySem.W.nsIn K mainGlobals "law" = some (some (.ref f11))) (l11 : K.lookup f11 = some ⟨oc11, od11, .func (PySem.W.fnOf "law" "law" (defArgs s_law) (defBody s_law) (defScope s_law) .none kV11 dc11 pm11 an11 cd11 ct11), sl11⟩) (c11 : PySem.W.codeIn K cd11 "law" = true) (k11 : PySem.W.keepIn K (.ref f11) = true)
    (z0 : PySem.W.nsIn K mainGlobals "abs" = some none) (z1 : PySem.W.nsIn K mainGlobals "int" = some none) (z2 : PySem.W.nsIn K mainGlobals "range" = some none) (z3 : PySem.W.nsIn K mainGlobals "len" = some none) (z4 : PySem.W.nsIn K mainGlobals "min" = some none) (z5 : PySem.W.nsIn K mainGlobals "max" = some none) (z6 : PySem.W.nsIn K mainGlobals "zip" = some none) (z7 : PySem.W.nsIn K mainGlobals "WEIGHTS" = some (some (.ref TG_WEIGHTS))) (y7 : K.lookup TG_WEIGHTS = some ⟨.type "tuple", td7, .seq #[.ref TG_WEIGHTS_0, .ref TG_WEIGHTS_1, .ref TG_WEIGHTS_2, .ref TG_WEIGHTS_3] tn7, tsl7⟩) (y7_0 : K.lookup TG_WEIGHTS_0 = some ⟨.type "tuple", td7_0, .seq #[.int 0 tk7_0_0, .int 0 tk7_0_1, .int 64 tk7_0_2, .int 0 tk7_0_3, .int 0 tk7_0_4, .int 0 tk7_0_5] tn7_0, tsl7_0⟩) (y7_1 : K.lookup TG_WEIGHTS_1 = some ⟨.type "tuple", td7_1, .seq #[.int 1 tk7_1_0, .int (-5) tk7_1_1, .int 52 tk7_1_2, .int 20 tk7_1_3, .int (-5) tk7_1_4, .int 1 tk7_1_5] tn7_1, tsl7_1⟩) (y7_2 : K.lookup TG_WEIGHTS_2 = some ⟨.type "tuple", td7_2, .seq #[.int 2 tk7_2_0, .int (-10) tk7_2_1, .int 40 tk7_2_2, .int 40 tk7_2_3, .int (-10) tk7_2_4, .int 2 tk7_2_5] tn7_2, tsl7_2⟩) (y7_3 : K.lookup TG_WEIGHTS_3 = some ⟨.type "tuple", td7_3, .seq #[.int 1 tk7_3_0, .int (-5) tk7_3_1, .int 20 tk7_3_2, .int 52 tk7_3_3, .int (-5) tk7_3_4, .int 1 tk7_3_5] tn7_3, tsl7_3⟩) (z8 : PySem.W.nsIn K mainGlobals "sum" = some none) (z9 : PySem.W.nsIn K mainGlobals "list" = some none) (z10 : PySem.W.nsIn K mainGlobals "isinstance" = some none) :
    ∃ fd : FuncData, (∀ (s : Shared) (v : Value), BindsTo s fd ⟨[v], []⟩ [("script", v)]) ∧ ∀ base : Heap, K.In base → base.Ns mainGlobals mg → FnG l.prog w K mg base CX0 4 fa fd ["script"] (spL K) := by
  have e := hfa.symm.trans (PySem.W.mg_of X G a11)
  cases e
  have T : Txt K mg ⟨TG_WEIGHTS, TG_WEIGHTS_0, TG_WEIGHTS_1, TG_WEIGHTS_2, TG_WEIGHTS_3, fa⟩ := ⟨PySem.W.mg_none_of X G z0, PySem.W.mg_none_of X G z1, PySem.W.mg_none_of X G z2, PySem.W.mg_none_of X G z3, PySem.W.mg_none_of X G z4, PySem.W.mg_none_of X G z5, PySem.W.mg_none_of X G z6, ⟨_, PySem.W.mg_of X G z7, rfl⟩, fun H => .inr ⟨_, _, _, y7, rfl, rfl, (by show 4 ≤ sizeLine; decide), (.cons rfl (.cons rfl (.cons rfl (.cons rfl .nil))))⟩, (F2.at (P := fun (a : Addr) (xs : List Int) => ∀ H, SqT K H a (xs.map V.int)) (.cons (fun H => .inr ⟨_, _, _, y7_0, rfl, rfl, (by show 6 ≤ sizeLine; decide), (.cons ⟨_, rfl⟩ (.cons ⟨_, rfl⟩ (.cons ⟨_, rfl⟩ (.cons ⟨_, rfl⟩ (.cons ⟨_, rfl⟩ (.cons ⟨_, rfl⟩ .nil))))))⟩) (.cons (fun H => .inr ⟨_, _, _, y7_1, rfl, rfl, (by show 6 ≤ sizeLine; decide), (.cons ⟨_, rfl⟩ (.cons ⟨_, rfl⟩ (.cons ⟨_, rfl⟩ (.cons ⟨_, rfl⟩ (.cons ⟨_, rfl⟩ (.cons ⟨_, rfl⟩ .nil))))))⟩) (.cons (fun H => .inr ⟨_, _, _, y7_2, rfl, rfl, (by show 6 ≤ sizeLine; decide), (.cons ⟨_, rfl⟩ (.cons ⟨_, rfl⟩ (.cons ⟨_, rfl⟩ (.cons ⟨_, rfl⟩ (.cons ⟨_, rfl⟩ (.cons ⟨_, rfl⟩ .nil))))))⟩) (.cons (fun H => .inr ⟨_, _, _, y7_3, rfl, rfl, (by show 6 ≤ sizeLine; decide), (.cons ⟨_, rfl⟩ (.cons ⟨_, rfl⟩ (.cons ⟨_, rfl⟩ (.cons ⟨_, rfl⟩ (.cons ⟨_, rfl⟩ (.cons ⟨_, rfl⟩ .nil))))))⟩) .nil))))), PySem.W.mg_none_of X G z8, PySem.W.mg_none_of X G z9, PySem.W.mg_none_of X G z10⟩
  have F0 : FunD K "_law_draws" "_law_draws" (defArgs s__law_draws) (defBody s__law_draws) (defScope s__law_draws) [] [] f0 _ := ⟨⟨_, _, _, _, _, _, _, _, _, _, rfl, l0, c0, .inl ⟨rfl, rfl⟩, .inl rfl⟩, k0⟩
  have D_0 : DefX K mg "_law_draws" s__law_draws ["cell", "limits"] pats__law_draws := ⟨_, _, _, _, F0, PySem.W.mg_of X G a0, (all_consQ (Bnd.all fun us ws vs zs l1 l2 r rz => by
      obtain ⟨u0, u1, rfl⟩ := len2 (r.length.symm.trans l1)
      obtain rfl := len0 (rz.length.symm.trans l2)
      cases r with | cons r0 r =>
        cases r with | cons r1 r =>
          cases r
          cases rz
          exact ⟨[u0, u1], rfl, (.cons r0 (.cons r1 .nil))⟩) all_nilQ)⟩
  have F1 : FunD K "_law_plane" "_law_plane" (defArgs s__law_plane) (defBody s__law_plane) (defScope s__law_plane) [] [] f1 _ := ⟨⟨_, _, _, _, _, _, _, _, _, _, rfl, l1, c1, .inl ⟨rfl, rfl⟩, .inl rfl⟩, k1⟩
  have D_1 : DefX K mg "_law_plane" s__law_plane ["cell", "width", "height", "top"] pats__law_plane := ⟨_, _, _, _, F1, PySem.W.mg_of X G a1, (all_consQ (Bnd.all fun us ws vs zs l1 l2 r rz => by
      obtain ⟨u0, u1, u2, u3, rfl⟩ := len4 (r.length.symm.trans l1)
      obtain rfl := len0 (rz.length.symm.trans l2)
      cases r with | cons r0 r =>
        cases r with | cons r1 r =>
          cases r with | cons r2 r =>
            cases r with | cons r3 r =>
              cases r
              cases rz
              exact ⟨[u0, u1, u2, u3], rfl, (.cons r0 (.cons r1 (.cons r2 (.cons r3 .nil))))⟩) all_nilQ)⟩
  have F2 : FunD K "_law_cell" "_law_cell" (defArgs s__law_cell) (defBody s__law_cell) (defScope s__law_cell) [] [] f2 _ := ⟨⟨_, _, _, _, _, _, _, _, _, _, rfl, l2, c2, .inl ⟨rfl, rfl⟩, .inl rfl⟩, k2⟩
  have D_2 : DefX K mg "_law_cell" s__law_cell ["script", "k"] pats__law_cell := ⟨_, _, _, _, F2, PySem.W.mg_of X G a2, (all_consQ (Bnd.all fun us ws vs zs l1 l2 r rz => by
      obtain ⟨u0, u1, rfl⟩ := len2 (r.length.symm.trans l1)
      obtain rfl := len0 (rz.length.symm.trans l2)
      cases r with | cons r0 r =>
        cases r with | cons r1 r =>
          cases r
          cases rz
          exact ⟨[u0, u1], rfl, (.cons r0 (.cons r1 .nil))⟩) all_nilQ)⟩
  have F3 : FunD K "clip" "clip" (defArgs s_clip) (defBody s_clip) (defScope s_clip) [] [] f3 _ := ⟨⟨_, _, _, _, _, _, _, _, _, _, rfl, l3, c3, .inl ⟨rfl, rfl⟩, .inl rfl⟩, k3⟩
  have D_3 : DefX K mg "clip" s_clip ["value", "low", "high"] pats_clip := ⟨_, _, _, _, F3, PySem.W.mg_of X G a3, (all_consQ (Bnd.all fun us ws vs zs l1 l2 r rz => by
      obtain ⟨u0, u1, u2, rfl⟩ := len3 (r.length.symm.trans l1)
      obtain rfl := len0 (rz.length.symm.trans l2)
      cases r with | cons r0 r =>
        cases r with | cons r1 r =>
          cases r with | cons r2 r =>
            cases r
            cases rz
            exact ⟨[u0, u1, u2], rfl, (.cons r0 (.cons r1 (.cons r2 .nil)))⟩) all_nilQ)⟩
  have F4 : FunD K "_samples" "_samples" (defArgs s__samples) (defBody s__samples) (defScope s__samples) [] [] f4 _ := ⟨⟨_, _, _, _, _, _, _, _, _, _, rfl, l4, c4, .inl ⟨rfl, rfl⟩, .inl rfl⟩, k4⟩
  have D_4 : DefX K mg "_samples" s__samples ["plane", "x", "y", "width", "height"] pats__samples := ⟨_, _, _, _, F4, PySem.W.mg_of X G a4, (all_consQ (Bnd.all fun us ws vs zs l1 l2 r rz => by
      obtain ⟨u0, u1, u2, u3, u4, rfl⟩ := len5 (r.length.symm.trans l1)
      obtain rfl := len0 (rz.length.symm.trans l2)
      cases r with | cons r0 r =>
        cases r with | cons r1 r =>
          cases r with | cons r2 r =>
            cases r with | cons r3 r =>
              cases r with | cons r4 r =>
                cases r
                cases rz
                exact ⟨[u0, u1, u2, u3, u4], rfl, (.cons r0 (.cons r1 (.cons r2 (.cons r3 (.cons r4 .nil)))))⟩) all_nilQ)⟩
  have F5 : FunD K "_weighted" "_weighted" (defArgs s__weighted) (defBody s__weighted) (defScope s__weighted) [] [] f5 _ := ⟨⟨_, _, _, _, _, _, _, _, _, _, rfl, l5, c5, .inl ⟨rfl, rfl⟩, .inl rfl⟩, k5⟩
  have D_5 : DefX K mg "_weighted" s__weighted ["weights", "lines"] pats__weighted := ⟨_, _, _, _, F5, PySem.W.mg_of X G a5, (all_consQ (Bnd.all fun us ws vs zs l1 l2 r rz => by
      obtain ⟨u0, u1, rfl⟩ := len2 (r.length.symm.trans l1)
      obtain rfl := len0 (rz.length.symm.trans l2)
      cases r with | cons r0 r =>
        cases r with | cons r1 r =>
          cases r
          cases rz
          exact ⟨[u0, u1], rfl, (.cons r0 (.cons r1 .nil))⟩) all_nilQ)⟩
  have F6 : FunD K "quarter_area" "quarter_area" (defArgs s_quarter_area) (defBody s_quarter_area) (defScope s_quarter_area) [] [] f6 _ := ⟨⟨_, _, _, _, _, _, _, _, _, _, rfl, l6, c6, .inl ⟨rfl, rfl⟩, .inl rfl⟩, k6⟩
  have D_6 : DefX K mg "quarter_area" s_quarter_area ["plane", "x", "y", "width", "height", "top"] pats_quarter_area := ⟨_, _, _, _, F6, PySem.W.mg_of X G a6, (all_consQ (Bnd.all fun us ws vs zs l1 l2 r rz => by
      obtain ⟨u0, u1, u2, u3, u4, rfl⟩ := len5 (r.length.symm.trans l1)
      obtain ⟨w0, rfl⟩ := len1 (rz.length.symm.trans l2)
      cases r with | cons r0 r =>
        cases r with | cons r1 r =>
          cases r with | cons r2 r =>
            cases r with | cons r3 r =>
              cases r with | cons r4 r =>
                cases r
                cases rz with | cons q0 rz =>
                  cases rz
                  exact ⟨[u0, u1, u2, u3, u4, w0], rfl, (.cons r0 (.cons r1 (.cons r2 (.cons r3 (.cons r4 (.cons q0 .nil))))))⟩) all_nilQ)⟩
  have F7 : FunD K "eighth_area" "eighth_area" (defArgs s_eighth_area) (defBody s_eighth_area) (defScope s_eighth_area) [] [] f7 _ := ⟨⟨_, _, _, _, _, _, _, _, _, _, rfl, l7, c7, .inl ⟨rfl, rfl⟩, .inl rfl⟩, k7⟩
  have D_7 : DefX K mg "eighth_area" s_eighth_area ["plane", "x", "y", "width", "height", "top"] pats_eighth_area := ⟨_, _, _, _, F7, PySem.W.mg_of X G a7, (all_consQ (Bnd.all fun us ws vs zs l1 l2 r rz => by
      obtain ⟨u0, u1, u2, u3, u4, rfl⟩ := len5 (r.length.symm.trans l1)
      obtain ⟨w0, rfl⟩ := len1 (rz.length.symm.trans l2)
      cases r with | cons r0 r =>
        cases r with | cons r1 r =>
          cases r with | cons r2 r =>
            cases r with | cons r3 r =>
              cases r with | cons r4 r =>
                cases r
                cases rz with | cons q0 rz =>
                  cases rz
                  exact ⟨[u0, u1, u2, u3, u4, w0], rfl, (.cons r0 (.cons r1 (.cons r2 (.cons r3 (.cons r4 (.cons q0 .nil))))))⟩) all_nilQ)⟩
  have F8 : FunD K "_law_at" "_law_at" (defArgs s__law_at) (defBody s__law_at) (defScope s__law_at) [] [] f8 _ := ⟨⟨_, _, _, _, _, _, _, _, _, _, rfl, l8, c8, .inl ⟨rfl, rfl⟩, .inl rfl⟩, k8⟩
  have D_8 : DefX K mg "_law_at" s__law_at ["plane", "x", "y"] pats__law_at := ⟨_, _, _, _, F8, PySem.W.mg_of X G a8, (all_consQ (Bnd.all fun us ws vs zs l1 l2 r rz => by
      obtain ⟨u0, u1, u2, rfl⟩ := len3 (r.length.symm.trans l1)
      obtain rfl := len0 (rz.length.symm.trans l2)
      cases r with | cons r0 r =>
        cases r with | cons r1 r =>
          cases r with | cons r2 r =>
            cases r
            cases rz
            exact ⟨[u0, u1, u2], rfl, (.cons r0 (.cons r1 (.cons r2 .nil)))⟩) all_nilQ)⟩
  have F9 : FunD K "_law_quarter" "_law_quarter" (defArgs s__law_quarter) (defBody s__law_quarter) (defScope s__law_quarter) [] [] f9 _ := ⟨⟨_, _, _, _, _, _, _, _, _, _, rfl, l9, c9, .inl ⟨rfl, rfl⟩, .inl rfl⟩, k9⟩
  have D_9 : DefX K mg "_law_quarter" s__law_quarter ["plane", "x", "y", "top"] pats__law_quarter := ⟨_, _, _, _, F9, PySem.W.mg_of X G a9, (all_consQ (Bnd.all fun us ws vs zs l1 l2 r rz => by
      obtain ⟨u0, u1, u2, u3, rfl⟩ := len4 (r.length.symm.trans l1)
      obtain rfl := len0 (rz.length.symm.trans l2)
      cases r with | cons r0 r =>
        cases r with | cons r1 r =>
          cases r with | cons r2 r =>
            cases r with | cons r3 r =>
              cases r
              cases rz
              exact ⟨[u0, u1, u2, u3], rfl, (.cons r0 (.cons r1 (.cons r2 (.cons r3 .nil))))⟩) all_nilQ)⟩
  have F10 : FunD K "_law_eighth" "_law_eighth" (defArgs s__law_eighth) (defBody s__law_eighth) (defScope s__law_eighth) [] [] f10 _ := ⟨⟨_, _, _, _, _, _, _, _, _, _, rfl, l10, c10, .inl ⟨rfl, rfl⟩, .inl rfl⟩, k10⟩
  have D_10 : DefX K mg "_law_eighth" s__law_eighth ["plane", "x", "y"] pats__law_eighth := ⟨_, _, _, _, F10, PySem.W.mg_of X G a10, (all_consQ (Bnd.all fun us ws vs zs l1 l2 r rz => by
      obtain ⟨u0, u1, u2, rfl⟩ := len3 (r.length.symm.trans l1)
      obtain rfl := len0 (rz.length.symm.trans l2)
      cases r with | cons r0 r =>
        cases r with | cons r1 r =>
          cases r with | cons r2 r =>
            cases r
            cases rz
            exact ⟨[u0, u1, u2], rfl, (.cons r0 (.cons r1 (.cons r2 .nil)))⟩) all_nilQ)⟩
  have F11 : FunD K "law" "law" (defArgs s_law) (defBody s_law) (defScope s_law) [] [] _ _ := ⟨⟨_, _, _, _, _, _, _, _, _, _, rfl, l11, c11, .inl ⟨rfl, rfl⟩, .inl rfl⟩, k11⟩
  have R__law_draws : ∀ base : Heap, CalX l.prog w K mg base 1 "_law_draws" (sp__law_draws K ⟨TG_WEIGHTS, TG_WEIGHTS_0, TG_WEIGHTS_1, TG_WEIGHTS_2, TG_WEIGHTS_3, fa⟩) pats__law_draws := fun base => ok__law_draws D_0 T 
  have R__law_plane : ∀ base : Heap, CalX l.prog w K mg base 2 "_law_plane" (sp__law_plane K ⟨TG_WEIGHTS, TG_WEIGHTS_0, TG_WEIGHTS_1, TG_WEIGHTS_2, TG_WEIGHTS_3, fa⟩) pats__law_plane := fun base => ok__law_plane D_1 T (R__law_draws base)
  have R__law_cell : ∀ base : Heap, CalX l.prog w K mg base 1 "_law_cell" (sp__law_cell K ⟨TG_WEIGHTS, TG_WEIGHTS_0, TG_WEIGHTS_1, TG_WEIGHTS_2, TG_WEIGHTS_3, fa⟩) pats__law_cell := fun base => ok__law_cell D_2 T 
  have R_clip : ∀ base : Heap, CalX l.prog w K mg base 1 "clip" (sp_clip K ⟨TG_WEIGHTS, TG_WEIGHTS_0, TG_WEIGHTS_1, TG_WEIGHTS_2, TG_WEIGHTS_3, fa⟩) pats_clip := fun base => ok_clip D_3 T 
  have R__samples : ∀ base : Heap, CalX l.prog w K mg base 2 "_samples" (sp__samples K ⟨TG_WEIGHTS, TG_WEIGHTS_0, TG_WEIGHTS_1, TG_WEIGHTS_2, TG_WEIGHTS_3, fa⟩) pats__samples := fun base => ok__samples D_4 T (R_clip base)
  have R__weighted : ∀ base : Heap, CalX l.prog w K mg base 1 "_weighted" (sp__weighted K ⟨TG_WEIGHTS, TG_WEIGHTS_0, TG_WEIGHTS_1, TG_WEIGHTS_2, TG_WEIGHTS_3, fa⟩) pats__weighted := fun base => ok__weighted D_5 T 
  have R_quarter_area : ∀ base : Heap, CalX l.prog w K mg base 3 "quarter_area" (sp_quarter_area K ⟨TG_WEIGHTS, TG_WEIGHTS_0, TG_WEIGHTS_1, TG_WEIGHTS_2, TG_WEIGHTS_3, fa⟩) pats_quarter_area := fun base => ok_quarter_area D_6 T (R__samples base) (R__weighted base) (R_clip base)
  have R_eighth_area : ∀ base : Heap, CalX l.prog w K mg base 3 "eighth_area" (sp_eighth_area K ⟨TG_WEIGHTS, TG_WEIGHTS_0, TG_WEIGHTS_1, TG_WEIGHTS_2, TG_WEIGHTS_3, fa⟩) pats_eighth_area := fun base => ok_eighth_area D_7 T (R__samples base)
  have R__law_at : ∀ base : Heap, CalX l.prog w K mg base 1 "_law_at" (sp__law_at K ⟨TG_WEIGHTS, TG_WEIGHTS_0, TG_WEIGHTS_1, TG_WEIGHTS_2, TG_WEIGHTS_3, fa⟩) pats__law_at := fun base => ok__law_at D_8 T 
  have R__law_quarter : ∀ base : Heap, CalX l.prog w K mg base 2 "_law_quarter" (sp__law_quarter K ⟨TG_WEIGHTS, TG_WEIGHTS_0, TG_WEIGHTS_1, TG_WEIGHTS_2, TG_WEIGHTS_3, fa⟩) pats__law_quarter := fun base => ok__law_quarter D_9 T (R__law_at base)
  have R__law_eighth : ∀ base : Heap, CalX l.prog w K mg base 2 "_law_eighth" (sp__law_eighth K ⟨TG_WEIGHTS, TG_WEIGHTS_0, TG_WEIGHTS_1, TG_WEIGHTS_2, TG_WEIGHTS_3, fa⟩) pats__law_eighth := fun base => ok__law_eighth D_10 T (R__law_at base)

  refine ⟨PySem.W.fnOf "law" "law" (defArgs s_law) (defBody s_law) (defScope s_law) .none kV11 dc11 pm11 an11 cd11 ct11, fun s v => .of_eq rfl, fun base _ _ => (ok_law (AD := ⟨TG_WEIGHTS, TG_WEIGHTS_0, TG_WEIGHTS_1, TG_WEIGHTS_2, TG_WEIGHTS_3, fa⟩) F11 T (R__law_draws base) (R__law_cell base) (R__law_plane base) (R__law_quarter base) (R_quarter_area base) (R__law_eighth base) (R_eighth_area base)).imp ?_⟩
  rintro vs H Q E ⟨a, xs, rfl, hs, hl, q⟩
  exact ⟨a, xs, rfl, hs, by rw [law_true xs hl]; exact cW_mk rfl, q⟩
end Vx
open PySem PySem.W PyProof.Rows
set_option maxRecDepth 100000 in
set_option maxHeartbeats 0 in
theorem PySem.Challenge.cw_thaumatrope_k36_areas_of_values_holds : PySem.Challenge.rw_thaumatrope_k36_areas_of_values.Holds := by
  w_on; o_law; k_head; (case hw => w_witness2)
  k_fill
  refine Vx.walkG (l := PySem.Challenge.rw_thaumatrope_k36_areas_of_values) (n := 63) (k := 4) (x := "script") rfl (by decide) rfl ⟨rfl, by decide, by decide⟩ (fun w h Y => PySem.W.kIn_of Y) ?F
  case F =>
    intro w mg fa h KX G hmg
    refine' Vx.all_mk KX G hmg ?a0 ?l0 ?c0 ?k0 ?a1 ?l1 ?c1 ?k1 ?a2 ?l2 ?c2 ?k2 ?a3 ?l3 ?c3 ?k3 ?a4 ?l4 ?c4 ?k4 ?a5 ?l5 ?c5 ?k5 ?a6 ?l6 ?c6 ?k6 ?a7 ?l7 ?c7 ?k7 ?a8 ?l8 ?c8 ?k8 ?a9 ?l9 ?c9 ?k9 ?a10 ?l10 ?c10 ?k10 ?a11 ?l11 ?c11 ?k11 ?z0 ?z1 ?z2 ?z3 ?z4 ?z5 ?z6 ?z7 ?y7 ?y7_0 ?y7_1 ?y7_2 ?y7_3 ?z8 ?z9 ?z10
    (case a0 => k_is)
    (case l0 => k_is)
    (case c0 => k_is)
    (case k0 => k_is)
    (case a1 => k_is)
    (case l1 => k_is)
    (case c1 => k_is)
    (case k1 => k_is)
    (case a2 => k_is)
    (case l2 => k_is)
    (case c2 => k_is)
    (case k2 => k_is)
    (case a3 => k_is)
    (case l3 => k_is)
    (case c3 => k_is)
    (case k3 => k_is)
    (case a4 => k_is)
    (case l4 => k_is)
    (case c4 => k_is)
    (case k4 => k_is)
    (case a5 => k_is)
    (case l5 => k_is)
    (case c5 => k_is)
    (case k5 => k_is)
    (case a6 => k_is)
    (case l6 => k_is)
    (case c6 => k_is)
    (case k6 => k_is)
    (case a7 => k_is)
    (case l7 => k_is)
    (case c7 => k_is)
    (case k7 => k_is)
    (case a8 => k_is)
    (case l8 => k_is)
    (case c8 => k_is)
    (case k8 => k_is)
    (case a9 => k_is)
    (case l9 => k_is)
    (case c9 => k_is)
    (case k9 => k_is)
    (case a10 => k_is)
    (case l10 => k_is)
    (case c10 => k_is)
    (case k10 => k_is)
    (case a11 => k_is)
    (case l11 => k_is)
    (case c11 => k_is)
    (case k11 => k_is)
    (case z0 => k_is)
    (case z1 => k_is)
    (case z2 => k_is)
    (case z3 => k_is)
    (case z4 => k_is)
    (case z5 => k_is)
    (case z6 => k_is)
    (case z7 => k_is)
    (case y7 => k_is)
    (case y7_0 => k_is)
    (case y7_1 => k_is)
    (case y7_2 => k_is)
    (case y7_3 => k_is)
    (case z8 => k_is)
    (case z9 => k_is)
    (case z10 => k_is)
