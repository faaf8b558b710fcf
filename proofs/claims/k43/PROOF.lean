import PyProof.Rows.All
import Wide.All
import OpenK.AllK
import Wide.FinOn
import HandS.ForMost
import HandS.Codes
import HandS.Steps
import HandS.IsInst
import HandS.Property
import HandS.Wide
import HandS.WideBits
import HandS.Exc
import HandS.Defaults
import HandS.ExcOwn
import HandS.TryOnly
import HandS.WordsExc
import HandS.ExcIs
import HandS.MakeKwOnly
import HandS.RaiseMore
import HandS.Style
import HandS.Zip
import HandS.Iter
import HandS.Star
import HandS.Walk
import PySem.Challenge.RW_thaumatrope_k43_squares_transformed
set_option Elab.async false
set_option linter.all false
set_option maxRecDepth 100000
set_option maxHeartbeats 8000000
namespace Vx
open PySem PySem.Spec PyProof.Rows L2

/-! ### heaps -/
def SameX (m : Addr) (H H' : Hp) : Prop := ∀ b o, H b = some o → b ≠ m → H' b = some o
theorem gen_new {H H' : Hp} {p : Addr} {o : HO} (n : H p = none) (h : upd H p o = H') : Same H H' ∧ H' p = some o := by
  subst h
  exact ⟨fun b u e => by rw [upd_ne (ne_of_none e n)]; exact e, upd_same⟩
theorem gen_mut {H H' : Hp} {m : Addr} {o : HO} (h : upd H m o = H') : SameX m H H' ∧ H' m = some o := by
  subst h
  exact ⟨fun b u e n => by rw [upd_ne n]; exact e, upd_same⟩
theorem same_mut {H0 H H' : Hp} {m : Addr} (B : Same H0 H) (x : SameX m H H') (f : H0 m = none) : Same H0 H' :=
  fun b o e => x b o (B b o e) (ne_of_none e f)
theorem map_get {xs : List Int} {i : Nat} {x : V} (h : (xs.map V.int)[i]? = some x) : ∃ o, xs[i]? = some o ∧ x = .int o := by
  rw [List.getElem?_map] at h
  cases e : xs[i]? with
  | none => rw [e] at h; cases h
  | some z => rw [e] at h; exact ⟨z, rfl, (Option.some.inj h).symm⟩
theorem get_len {α : Type} {xs : List α} {i : Nat} {x : α} (h : xs[i]? = some x) : i < xs.length := (List.getElem?_eq_some_iff.mp h).1
theorem eq_int {Q : VK} {H : Hp} {a b : Int} (h : Q (.int a) H) (e : a = b) : Q (.int b) H := e ▸ h
theorem eq_bl {Q : VK} {H : Hp} {a b : Bool} (h : Q (.bl a) H) (e : a = b) : Q (.bl b) H := e ▸ h
theorem small {n : Nat} (h : n ≤ 1000000) : n < sizeLine := Nat.lt_of_le_of_lt h (by decide)
theorem smallE {n : Nat} (h : n ≤ 1000000) : n ≤ sizeLine := Nat.le_of_lt (small h)
theorem snoc_int {xs : List Int} {y : Int} {H : Hp} {p : Addr} (h : H p = some (.lst (xs.map V.int ++ [V.int y]))) : H p = some (.lst ((xs ++ [y]).map V.int)) := by
  rw [List.map_append]; exact h
theorem cat_int {xs ys : List Int} {H : Hp} {p : Addr} (h : H p = some (.lst (xs.map V.int ++ ys.map V.int))) : H p = some (.lst ((xs ++ ys).map V.int)) := by
  rw [List.map_append]; exact h
theorem cast_lst {xs ys : List Int} {H : Hp} {p : Addr} (h : H p = some (.lst (xs.map V.int))) (e : xs = ys) : H p = some (.lst (ys.map V.int)) := e ▸ h

/-! ### tests -/
theorem dT {p : Prop} [Decidable p] (h : decide p = true) : p := of_decide_eq_true h
theorem dF {p : Prop} [Decidable p] (h : ¬ decide p = true) : ¬ p := fun x => h (decide_eq_true x)
theorem iteD {p A B : Prop} [Decidable p] (h1 : p → A) (h2 : ¬ p → B) : if decide p = true then A else B := by
  by_cases h : p
  · rw [if_pos (decide_eq_true h)]; exact h1 h
  · rw [if_neg (fun x => h (of_decide_eq_true x))]; exact h2 h
theorem iteN {p A B : Prop} [Decidable p] (h1 : ¬ p → A) (h2 : p → B) : if (!decide p) = true then A else B := by
  by_cases h : p
  · rw [decide_eq_true h]; exact iteF (h2 h)
  · rw [decide_eq_false h]; exact iteT (h1 h)
theorem iteB {b : Bool} {A B : Prop} (h1 : b = true → A) (h2 : b = false → B) : if b = true then A else B := by
  cases b with
  | true => exact iteT (h1 rfl)
  | false => exact iteF (h2 rfl)
theorem iteBN {b : Bool} {A B : Prop} (h1 : b = false → A) (h2 : b = true → B) : if (!b) = true then A else B := by
  cases b with
  | true => exact iteF (h2 rfl)
  | false => exact iteT (h1 rfl)
theorem iteDT {p A B : Prop} [Decidable p] (h : p) (k : A) : if decide p = true then A else B := by
  rw [if_pos (decide_eq_true h)]; exact k
theorem iteDF {p A B : Prop} [Decidable p] (h : ¬ p) (k : B) : if decide p = true then A else B := by
  rw [if_neg (fun x => h (of_decide_eq_true x))]; exact k
theorem iteNT {p A B : Prop} [Decidable p] (h : ¬ p) (k : A) : if (!decide p) = true then A else B := iteN (fun _ => k) (fun x => (h x).elim)
theorem iteNF {p A B : Prop} [Decidable p] (h : p) (k : B) : if (!decide p) = true then A else B := iteN (fun x => (x h).elim) (fun _ => k)

/-! ### equality of lists of ints -/
theorem eqvAll_ints : ∀ xs ys : List Int, PyData.eqvAll (xs.map PyData.int) (ys.map PyData.int) = decide (xs = ys)
  | [], [] => by simp [PyData.eqvAll]
  | [], y :: ys => by simp [PyData.eqvAll]
  | x :: xs, [] => by simp [PyData.eqvAll]
  | x :: xs, y :: ys => by
    have ih := eqvAll_ints xs ys
    simp only [List.map_cons, PyData.eqvAll, PyData.eqv, ih]
    by_cases h : x = y <;> by_cases h2 : xs = ys <;> simp [h, h2]
end Vx

namespace Vx
open PySem PySem.Spec PyProof.Rows L2
section
variable {X : Cx}
def rEqLi (K : PySem.W.Frag) : R2 := fun x y H Q => ∃ (a b : Addr) (xs ys : List Int), x = .ref a ∧ y = .ref b ∧ SqL K H a (xs.map V.int) ∧ SqL K H b (ys.map V.int) ∧ Q (.bl (decide (xs = ys))) H
def rNeLi (K : PySem.W.Frag) : R2 := fun x y H Q => ∃ (a b : Addr) (xs ys : List Int), x = .ref a ∧ y = .ref b ∧ SqL K H a (xs.map V.int) ∧ SqL K H b (ys.map V.int) ∧ Q (.bl (!decide (xs = ys))) H
theorem dpAll_ints {K : PySem.W.Frag} {H : Hp} : ∀ xs : List Int, DpAll K H (xs.map V.int) (xs.map PyData.int)
  | [] => .nil
  | x :: xs => .cons (.int x) (dpAll_ints xs)
theorem dp_ints {K : PySem.W.Frag} {H : Hp} {a : Addr} {xs : List Int} (h : SqL K H a (xs.map V.int)) : Dp K H (.ref a) (.list (xs.map PyData.int)) := .lst h (dpAll_ints xs)
theorem canLay_ints : ∀ xs : List Int, PyData.canLayAll0 (xs.map PyData.int) = true
  | [] => by simp [PyData.canLayAll0]
  | x :: xs => by simp [PyData.canLayAll0, PyData.canLay0, canLay_ints xs]
theorem depth_ints : ∀ xs : List Int, PyData.depthAll (xs.map PyData.int) = 0
  | [] => by simp [PyData.depthAll]
  | x :: xs => by simp [PyData.depthAll, PyData.depth, depth_ints xs]
theorem shaped_ints (xs : List Int) : SeqAt.shaped (.list (xs.map PyData.int)) = true := by
  unfold SeqAt.shaped
  simp [PyData.canLay0, canLay_ints, PyData.depth, depth_ints]
theorem eqv_ints (xs ys : List Int) : PyData.eqv (.list (xs.map PyData.int)) (.list (ys.map PyData.int)) = decide (xs = ys) := by
  simp only [PyData.eqv]
  exact eqvAll_ints xs ys
theorem op_eqLi (hu : X.A.units + 64 < cLine) : OpR X (compareOp .Eq) (rEqLi X.K) := by
  intro pins s σ H x y v u Q I rx ry h
  obtain ⟨a, b, xs, ys, rfl, rfl, h1, h2, q⟩ := h
  exact op_eqD hu pins s σ H _ _ v u Q I rx ry ⟨_, _, dp_ints h1, dp_ints h2, shaped_ints xs, shaped_ints ys, by rw [eqv_ints]; exact q⟩
theorem op_neLi (hu : X.A.units + 64 < cLine) : OpR X (compareOp .NotEq) (rNeLi X.K) := by
  intro pins s σ H x y v u Q I rx ry h
  obtain ⟨a, b, xs, ys, rfl, rfl, h1, h2, q⟩ := h
  exact op_neD hu pins s σ H _ _ v u Q I rx ry ⟨_, _, dp_ints h1, dp_ints h2, shaped_ints xs, shaped_ints ys, by rw [eqv_ints]; exact q⟩

/-! ### items, slices, repetition, comprehensions of ints -/
def itI (xs : List Int) (i : Int) : Int := (atI xs i).getD 0
theorem atI_int {xs : List Int} {i : Int} (h : -(xs.length : Int) ≤ i ∧ i < xs.length) : atI (xs.map V.int) i = some (.int (itI xs i)) := by
  unfold itI atI
  rw [List.length_map]
  have hk : ∃ j, ixN xs.length i = some j ∧ j < xs.length := by
    unfold ixN
    by_cases h0 : 0 ≤ i
    · refine ⟨i.toNat, ?_, by omega⟩
      rw [if_pos h0, if_pos h.2]
    · refine ⟨(i + xs.length).toNat, ?_, by omega⟩
      rw [if_neg h0, if_pos h.1]
  obtain ⟨j, e, hj⟩ := hk
  rw [e]
  show (xs.map V.int)[j]? = some (V.int ((xs[j]?).getD 0))
  rw [List.getElem?_map, List.getElem?_eq_getElem hj] <;> rfl
def cutI (xs : List Int) (lo hi : Option Int) : List Int := (xs.drop (HT.sIx xs.length 0 lo)).take (HT.sIx xs.length xs.length hi - HT.sIx xs.length 0 lo)
theorem cut_int {xs : List Int} {lo hi : Option Int} {H : Hp} {p : Addr} (h : H p = some (.lst (cutV (xs.map V.int) lo hi))) : H p = some (.lst ((cutI xs lo hi).map V.int)) := by
  rw [h]
  unfold cutV cutI
  rw [List.length_map, List.map_take, List.map_drop]
def rep (xs : List Int) (k : Int) : List Int := (List.replicate k.toNat xs).flatten
theorem rep_int {xs : List Int} {k : Int} {H : Hp} {p : Addr} (h : H p = some (.lst (List.replicate k.toNat (xs.map V.int)).flatten)) : H p = some (.lst ((rep xs k).map V.int)) := by
  rw [h]
  unfold rep
  rw [List.map_flatten, List.map_replicate]
theorem divW_lit {i j : Int} (h : 0 < j) (h2 : j.natAbs.log2 < 9000) : CDivW i j := ⟨h, h2⟩
theorem divW_small {i j : Int} (h : 0 < j) (h2 : j < 2 ^ 128) : CDivW i j := wide_div h (show j.natAbs < 2 ^ 128 by omega) (by decide) (by decide)
theorem comp_list {xs : List Int} {i : Nat} {x y : Int} {f : Int → Int} {H : Hp} {D : Addr} (hi : xs[i]? = some x) (h : H D = some (.lst (((xs.take i).map f).map V.int ++ [V.int y]))) (e : f x = y) : H D = some (.lst (((xs.take (i + 1)).map f).map V.int)) := by
  rw [h, ← e, List.take_succ, hi, List.map_append, List.map_append] <;> rfl
theorem comp_done {xs : List Int} {f : Int → Int} {H : Hp} {D : Addr} (h : H D = some (.lst (((xs.take (xs.map V.int).length).map f).map V.int))) : H D = some (.lst ((xs.map f).map V.int)) := by
  rw [List.length_map, List.take_length] at h
  exact h
theorem comp_range {i : Nat} {y : Int} {f : Nat → Int} {H : Hp} {D : Addr} (h : H D = some (.lst (((List.range i).map f).map V.int ++ [V.int y]))) (e : f i = y) : H D = some (.lst (((List.range (i + 1)).map f).map V.int)) := by
  rw [h, ← e, List.range_succ, List.map_append, List.map_append] <;> rfl
theorem iteBT {b : Bool} {A B : Prop} (h : b = true) (k : A) : if b = true then A else B := by rw [if_pos h]; exact k
theorem iteBF {b : Bool} {A B : Prop} (h : b = false) (k : B) : if b = true then A else B := by rw [if_neg (by rw [h]; decide)]; exact k
theorem take_succ_get {α : Type} {xs : List α} {i : Nat} {x : α} (hi : xs[i]? = some x) : xs.take (i + 1) = xs.take i ++ [x] := by rw [List.take_succ, hi] <;> rfl
end

/-! ### defs of the module, as callers see them -/
section
variable {P : Program} {w : World} {K : PySem.W.Frag} {mg : Str → Option Value} {base : Heap}
structure DefIn (K : PySem.W.Frag) (mg : Str → Option Value) (x : Str) (st : Stmt) (ps : List Str) : Prop where
  ex : ∃ (f : Addr) (fd : FuncData), Fun K x x st f fd ∧ mg x = some (.ref f) ∧ Binds K fd ps []
structure Cal (P : Program) (w : World) (K : PySem.W.Frag) (mg : Str → Option Value) (base : Heap) (k : Nat) (x : Str) (sp : Sp) : Prop where
  ex : ∃ (f : Addr) (fd : FuncData) (ps : List Str), FnOk P w K mg base CX0 k f fd ps sp ∧ mg x = some (.ref f) ∧ PySem.W.keepIn K (.ref f) = true ∧ Binds K fd ps []
theorem DefIn.ok {x : Str} {st : Stmt} {N ps : List Str} {k : Nat} {sp : Sp} (D : DefIn K mg x st ps) (S : FnScope N ps (defScope st)) (len : ∀ vs H Q E, sp vs H Q E → vs.length = ps.length)
    (hbody : ∀ (f : Addr) (cdv : Value) (A : Around) (outer : List Env) (s : Shared) (H : Hp) (vs : List V) (Q : VK) (E : XK), Room k (A.deeper (envOfC x (defScope st) s.heap.objs.size f cdv)) → sp vs H Q E →
      ∃ t, PSs (cxOf CX0 P w K mg base N x (defScope st) f cdv A outer s H E).nox (defBody st) t ∧ t { nx := fun _ H' => Q .non H', rt := Q } (start N vs) H) : Cal P w K mg base (k + 1) x sp := by
  obtain ⟨f, fd, F, hm, b⟩ := D.ex
  exact ⟨f, fd, ps, F.ok S len (fun cdv A outer s H vs Q E hr h => hbody f cdv A outer s H vs Q E hr h), hm, F.kp, b⟩
end
section
variable {X : Cx} {k j : Nat} {x : Str} {sp : Sp} {p pos : Pos} {e : Expr} {es : List Expr} {t : TA}
theorem vx_call (c : Cal X.prog X.w X.K X.mg X.base k x sp) (hr : Room j X.A) (hk : k ≤ j) (hg : Gl X x) (ha : PA X (e :: es) t)
    (hdb : (x == ("__debug__" : Str)) = false := by decide) (he : starEach (e :: es) X.env = (false, eval e X.env) :: starEach es X.env := by rfl) (hpl : (backTo pos (starEach es X.env)).any (·.1) = false := by rfl) :
    PE X (.Call (.Name x p) (e :: es) [] pos) (tCall sp [] E0 t) := by
  obtain ⟨f, fd, ps, F, hm, kp, b⟩ := c.ex
  exact pe_call F (hr.mono hk) hg hm kp b .nil pass0 ha hdb he hpl
end
end Vx

namespace Vx
open PySem PySem.Spec PyProof.Rows L2
section
variable {σ : L2.St} {H : Hp} {ta tb : TE} {x y z : V} {t : TT}
theorem vv_and {a b : Bool} (h1 : Val ta σ H (.bl a)) (h2 : Val tb σ H (.bl b)) : Val (tAndV ta tb) σ H (.bl (a && b)) := fun Q q => h1 _ ⟨a, rfl, by
  cases a with
  | true => exact iteT (h2 Q q)
  | false => exact iteF q⟩
theorem vv_or {a b : Bool} (h1 : Val ta σ H (.bl a)) (h2 : Val tb σ H (.bl b)) : Val (tOrV ta tb) σ H (.bl (a || b)) := fun Q q => h1 _ ⟨a, rfl, by
  cases a with
  | true => exact iteT q
  | false => exact iteF (h2 Q q)⟩
theorem vv_not {a : Bool} (h1 : Val ta σ H (.bl a)) : Val (tNotV ta) σ H (.bl (!a)) := fun Q q => h1 _ ⟨a, rfl, q⟩
theorem vv_un {r : V → Hp → VK → Prop} (ha : Val ta σ H x) (hr : ∀ Q : VK, Q z H → r x H Q) : Val (tUn r ta) σ H z := fun Q q => ha _ (hr Q q)
theorem vv_cmp {p : Int → Int → Bool} (ha : Val ta σ H x) (hb : Val tb σ H y) (hr : ∀ Q : VK, Q z H → ∃ i j, x = .int i ∧ y = .int j ∧ Q (.bl (p i j)) H) : Val (tCmp p ta tb) σ H z := fun Q q => ha _ (hb _ (hr Q q))
theorem vv_call1 {r : List V → Hp → VK → Prop} (ha : Val ta σ H x) (hr : ∀ Q : VK, Q z H → r [x] H Q) : Val (tCB r (tCons ta tNil)) σ H z := fun Q q => ha _ (hr Q q)
theorem vt_cmp {b : Bool} (h : Val ta σ H (.bl b)) : Ans (tB ta) σ H b := fun Q q => h _ ⟨b, rfl, q⟩
theorem vt_val {b : Bool} (h : Val ta σ H (.bl b)) : Ans (tB ta) σ H b := fun Q q => h _ ⟨b, rfl, q⟩
theorem vt_int {i : Int} {K : PySem.W.Frag} (h : Val ta σ H (.int i)) : Ans (fun σ H Q => ta σ H fun x H' => ∃ k, TruV K x H' k ∧ Q k H') σ H (i != 0) := fun Q q => h _ ⟨_, rfl, q⟩
theorem vv_if {p : Prop} [Decidable p] {a b : Int} (ht : Ans t σ H (decide p)) (hx : Val ta σ H (.int a)) (hy : Val tb σ H (.int b)) : Val (tIf t ta tb) σ H (.int (if p then a else b)) := fun Q q => ht _ (by
  by_cases h : p
  · rw [if_pos h] at q; exact iteDT h (hx Q q)
  · rw [if_neg h] at q; exact iteDF h (hy Q q))
theorem vv_ifb {c : Bool} {a b : Int} (ht : Ans t σ H c) (hx : Val ta σ H (.int a)) (hy : Val tb σ H (.int b)) : Val (tIf t ta tb) σ H (.int (if c = true then a else b)) := fun Q q => ht _ (by
  cases c with
  | true => exact iteT (hx Q q)
  | false => exact iteF (hy Q q))
end
end Vx

namespace Vx
open PySem PySem.Spec PyProof.Rows L2
def rLenLi (K : PySem.W.Frag) : List V → Hp → VK → Prop := fun xs H Q => ∃ (p : Addr) (ns : List Int), xs = [.ref p] ∧ SqL K H p (ns.map V.int) ∧ Q (.int (ns.length : Int)) H
theorem call_lenLi {X : Cx} : CallR X (.builtin "len") (rLenLi X.K) := by
  intro pins s σ H xs us Q I r h
  obtain ⟨p, ns, rfl, hs, q⟩ := h
  exact call_len_seq pins s σ H _ us Q I r ⟨p, _, rfl, Or.inl hs, by rw [List.length_map]; exact q⟩
end Vx

namespace Vx
open PySem PySem.Spec PyProof.Rows L2
section
variable {X : Cx} {K : PySem.W.Frag}
theorem ix_listK (hK : X.K = K := by rfl) : IxR X (rIxL K) := hK ▸ ix_list
theorem sl_listK (hK : X.K = K := by rfl) : SlR X (rSlL K) := hK ▸ sl_list
theorem call_lenLiK (hK : X.K = K := by rfl) : CallR X (.builtin "len") (rLenLi K) := hK ▸ call_lenLi
theorem op_eqLiK (hu : X.A.units + 64 < cLine) (hK : X.K = K := by rfl) : OpR X (compareOp .Eq) (rEqLi K) := hK ▸ op_eqLi hu
theorem op_neLiK (hu : X.A.units + 64 < cLine) (hK : X.K = K := by rfl) : OpR X (compareOp .NotEq) (rNeLi K) := hK ▸ op_neLi hu
theorem pi_listK {tg l : Expr} {tl : TE} (hl : PE X l tl) (hK : X.K = K := by rfl) : PI X tg l (iList K tl) := hK ▸ pi_list hl
theorem cr_sumK (hc : X.calm = true) (hK : X.K = K := by rfl) : CallR X (.builtin "sum") (rSum K) := hK ▸ cr_sum hc
theorem cr_maxK (hc : X.calm = true) (hK : X.K = K := by rfl) : CallR X (.builtin "max") (rMax K) := hK ▸ cr_max hc
theorem cr_minK (hc : X.calm = true) (hK : X.K = K := by rfl) : CallR X (.builtin "min") (rMin K) := hK ▸ cr_min hc
end
end Vx

namespace Vx
open PySem PySem.Spec PyProof.Rows L2
theorem tyes_go {σ : L2.St} {H : Hp} {f g : Hp → Prop} (h : f H) : tYes σ H (fun b H3 => if b = true then f H3 else g H3) := by
  show if true = true then f H else g H
  exact iteT h
end Vx

/-! # second part: data of any depth, the stable heap G, the owned addresses O -/
namespace Vx
open PySem PySem.Spec PyProof.Rows L2
mutual
inductive Rp (H : Hp) : V → PyData → Prop
  | non : Rp H .non .none
  | bl (b : Bool) : Rp H (.bl b) (.bool b)
  | int (i : Int) : Rp H (.int i) (.int i)
  | str (x : Str) : Rp H (.str x) (.str x)
  | lst {a : Addr} {xs : List V} {ds : List PyData} : H a = some (.lst xs) → RpAll H xs ds → Rp H (.ref a) (.list ds)
  | tup {a : Addr} {xs : List V} {ds : List PyData} : H a = some (.tup xs) → RpAll H xs ds → Rp H (.ref a) (.tuple ds)
inductive RpAll (H : Hp) : List V → List PyData → Prop
  | nil : RpAll H [] []
  | cons {v : V} {vs : List V} {d : PyData} {ds : List PyData} : Rp H v d → RpAll H vs ds → RpAll H (v :: vs) (d :: ds)
end
mutual
theorem Rp.mono {H H' : Hp} (e : Same H H') : ∀ {v : V} {d : PyData}, Rp H v d → Rp H' v d
  | _, _, .non => .non
  | _, _, .bl b => .bl b
  | _, _, .int i => .int i
  | _, _, .str x => .str x
  | _, _, .lst h r => .lst (e _ _ h) (RpAll.mono e r)
  | _, _, .tup h r => .tup (e _ _ h) (RpAll.mono e r)
theorem RpAll.mono {H H' : Hp} (e : Same H H') : ∀ {vs : List V} {ds : List PyData}, RpAll H vs ds → RpAll H' vs ds
  | _, _, .nil => .nil
  | _, _, .cons a b => .cons (Rp.mono e a) (RpAll.mono e b)
end
mutual
theorem Rp.dp {K : PySem.W.Frag} {H : Hp} : ∀ {v : V} {d : PyData}, Rp H v d → Dp K H v d
  | _, _, .non => .non
  | _, _, .bl b => .bl b
  | _, _, .int i => .int i
  | _, _, .str x => .str x
  | _, _, .lst h r => .lst (SqL.of h) (RpAll.dp r)
  | _, _, .tup h r => .tup (SqT.of h) (RpAll.dp r)
theorem RpAll.dp {K : PySem.W.Frag} {H : Hp} : ∀ {vs : List V} {ds : List PyData}, RpAll H vs ds → DpAll K H vs ds
  | _, _, .nil => .nil
  | _, _, .cons a b => .cons (Rp.dp a) (RpAll.dp b)
end
theorem RpAll.append {H : Hp} : ∀ {xs ys : List V} {ds es : List PyData}, RpAll H xs ds → RpAll H ys es → RpAll H (xs ++ ys) (ds ++ es)
  | _, _, _, _, .nil, s => s
  | _, _, _, _, .cons r t, s => .cons r (RpAll.append t s)
theorem RpAll.ints {H : Hp} : ∀ xs : List Int, RpAll H (xs.map V.int) (xs.map PyData.int)
  | [] => .nil
  | x :: xs => .cons (.int x) (RpAll.ints xs)
theorem RpAll.bls {H : Hp} : ∀ xs : List Bool, RpAll H (xs.map V.bl) (xs.map PyData.bool)
  | [] => .nil
  | x :: xs => .cons (.bl x) (RpAll.bls xs)
theorem RpAll.one {H : Hp} {v : V} {d : PyData} (h : Rp H v d) : RpAll H [v] [d] := .cons h .nil
theorem RpAll.len {H : Hp} : ∀ {vs : List V} {ds : List PyData}, RpAll H vs ds → vs.length = ds.length
  | _, _, .nil => rfl
  | _, _, .cons _ t => by rw [List.length_cons, List.length_cons, RpAll.len t]
theorem RpAll.at {H : Hp} : ∀ {vs : List V} {ds : List PyData} {i : Nat} {v : V}, RpAll H vs ds → vs[i]? = some v → ∃ d, ds[i]? = some d ∧ Rp H v d
  | _, _, _, _, .nil, h => by simp at h
  | _, _, 0, _, .cons r _, h => by
    simp at h
    subst h
    exact ⟨_, rfl, r⟩
  | _, _, i + 1, _, .cons _ t, h => by
    obtain ⟨d, h1, h2⟩ := RpAll.at (i := i) t (by simpa using h)
    exact ⟨d, by simpa using h1, h2⟩
theorem RpAll.at' {H : Hp} : ∀ {vs : List V} {ds : List PyData} {i : Nat} {d : PyData}, RpAll H vs ds → ds[i]? = some d → ∃ v, vs[i]? = some v ∧ Rp H v d
  | _, _, _, _, .nil, h => by simp at h
  | _, _, 0, _, .cons r _, h => by
    simp at h
    subst h
    exact ⟨_, rfl, r⟩
  | _, _, i + 1, _, .cons _ t, h => by
    obtain ⟨v, h1, h2⟩ := RpAll.at' (i := i) t (by simpa using h)
    exact ⟨v, by simpa using h1, h2⟩
theorem RpAll.take {H : Hp} : ∀ (n : Nat) {vs : List V} {ds : List PyData}, RpAll H vs ds → RpAll H (vs.take n) (ds.take n)
  | 0, _, _, _ => by simpa using RpAll.nil
  | n + 1, _, _, .nil => by simpa using RpAll.nil
  | n + 1, _, _, .cons r t => .cons r (RpAll.take n t)
theorem RpAll.drop {H : Hp} : ∀ (n : Nat) {vs : List V} {ds : List PyData}, RpAll H vs ds → RpAll H (vs.drop n) (ds.drop n)
  | 0, _, _, r => r
  | n + 1, _, _, .nil => by simpa using RpAll.nil
  | n + 1, _, _, .cons r t => RpAll.drop n t
theorem RpAll.set {H : Hp} {v : V} {d : PyData} (h : Rp H v d) : ∀ (n : Nat) {vs : List V} {ds : List PyData}, RpAll H vs ds → RpAll H (vs.set n v) (ds.set n d)
  | _, _, _, .nil => .nil
  | 0, _, _, .cons _ t => .cons h t
  | n + 1, _, _, .cons r t => .cons r (RpAll.set h n t)
theorem RpAll.rep {H : Hp} {vs : List V} {ds : List PyData} (h : RpAll H vs ds) : ∀ n : Nat, RpAll H (List.replicate n vs).flatten (List.replicate n ds).flatten
  | 0 => by simpa using RpAll.nil
  | n + 1 => by
    rw [List.replicate_succ, List.flatten_cons, List.replicate_succ, List.flatten_cons]
    exact RpAll.append h (RpAll.rep h n)
theorem RpAll.get {α : Type} {f : α → PyData} {H : Hp} {vs : List V} {xs : List α} {i : Nat} {v : V} (r : RpAll H vs (xs.map f)) (h : vs[i]? = some v) : ∃ x, xs[i]? = some x ∧ Rp H v (f x) := by
  obtain ⟨d, h1, h2⟩ := RpAll.at r h
  rw [List.getElem?_map] at h1
  cases e : xs[i]? with
  | none => rw [e] at h1; cases h1
  | some x =>
    rw [e] at h1
    have : f x = d := Option.some.inj h1
    exact ⟨x, rfl, this ▸ h2⟩
/-- the item at an index, data -/
theorem RpAll.ix {α : Type} {f : α → PyData} {H : Hp} {vs : List V} {xs : List α} {k : Int} (r : RpAll H vs (xs.map f)) (h : -(xs.length : Int) ≤ k ∧ k < xs.length) : ∃ v x, atI vs k = some v ∧ atI xs k = some x ∧ Rp H v (f x) := by
  have hl : vs.length = xs.length := by rw [r.len, List.length_map]
  have hk : ∃ j, ixN xs.length k = some j ∧ j < xs.length := by
    unfold ixN
    by_cases h0 : 0 ≤ k
    · refine ⟨k.toNat, ?_, by omega⟩
      rw [if_pos h0, if_pos h.2]
    · refine ⟨(k + xs.length).toNat, ?_, by omega⟩
      rw [if_neg h0, if_pos h.1]
  obtain ⟨j, e, hj⟩ := hk
  have hx := List.getElem?_eq_getElem hj
  obtain ⟨v, h1, h2⟩ := RpAll.at' (i := j) (d := f xs[j]) r (by rw [List.getElem?_map, hx] <;> rfl)
  refine ⟨v, xs[j], ?_, ?_, h2⟩
  · unfold atI
    rw [hl, e]
    exact h1
  · unfold atI
    rw [e]
    exact hx

/-! ### types -/
def encL {α : Type} (f : α → PyData) (xs : List α) : PyData := .list (xs.map f)
def encT2 {α β : Type} (f : α → PyData) (g : β → PyData) (p : α × β) : PyData := .tuple [f p.1, g p.2]
def encT3 {α β γ : Type} (f : α → PyData) (g : β → PyData) (h : γ → PyData) (p : α × β × γ) : PyData := .tuple [f p.1, g p.2.1, h p.2.2]
def encT4 {α β γ δ : Type} (f : α → PyData) (g : β → PyData) (h : γ → PyData) (i : δ → PyData) (p : α × β × γ × δ) : PyData := .tuple [f p.1, g p.2.1, h p.2.2.1, i p.2.2.2]
structure EncOk {α : Type} [DecidableEq α] (n : Nat) (f : α → PyData) : Prop where
  lay : ∀ x, PyData.canLay0 (f x) = true
  dep : ∀ x, PyData.depth (f x) ≤ n
  eqv : ∀ x y, PyData.eqv (f x) (f y) = decide (x = y)
theorem encOk_int : EncOk 0 PyData.int := ⟨fun _ => by simp [PyData.canLay0], fun _ => by simp [PyData.depth], fun x y => by simp [PyData.eqv]; by_cases h : x = y <;> simp [h]⟩
theorem encOk_bool : EncOk 0 PyData.bool := ⟨fun _ => by simp [PyData.canLay0], fun _ => by simp [PyData.depth], fun x y => by cases x <;> cases y <;> simp [PyData.eqv]⟩
section
variable {α β γ δ : Type} [DecidableEq α] [DecidableEq β] [DecidableEq γ] [DecidableEq δ] {n m l o : Nat} {f : α → PyData} {g : β → PyData} {h : γ → PyData} {i : δ → PyData}
theorem lay_map (ok : EncOk n f) : ∀ xs : List α, PyData.canLayAll0 (xs.map f) = true
  | [] => by simp [PyData.canLayAll0]
  | x :: xs => by simp [PyData.canLayAll0, ok.lay x, lay_map ok xs]
theorem dep_map (ok : EncOk n f) : ∀ xs : List α, PyData.depthAll (xs.map f) ≤ n
  | [] => by simp [PyData.depthAll]
  | x :: xs => by
    have h1 := ok.dep x
    have h2 := dep_map ok xs
    simp only [List.map_cons, PyData.depthAll]
    omega
theorem eqv_map (ok : EncOk n f) : ∀ xs ys : List α, PyData.eqvAll (xs.map f) (ys.map f) = decide (xs = ys)
  | [], [] => by simp [PyData.eqvAll]
  | [], y :: ys => by simp [PyData.eqvAll]
  | x :: xs, [] => by simp [PyData.eqvAll]
  | x :: xs, y :: ys => by
    have ih := eqv_map ok xs ys
    simp only [List.map_cons, PyData.eqvAll, ok.eqv, ih]
    by_cases h : x = y <;> by_cases h2 : xs = ys <;> simp [h, h2]
theorem encOk_L (ok : EncOk n f) : EncOk (n + 1) (encL f) := ⟨fun xs => by simp [encL, PyData.canLay0, lay_map ok], fun xs => by
  have := dep_map ok xs
  simp only [encL, PyData.depth]
  omega, fun xs ys => by simp only [encL, PyData.eqv]; exact eqv_map ok xs ys⟩
theorem encOk_T2 (ok : EncOk n f) (ok2 : EncOk m g) : EncOk (max n m + 1) (encT2 f g) := ⟨fun x => by simp [encT2, PyData.canLay0, PyData.canLayAll0, ok.lay, ok2.lay], fun x => by
  have h1 := ok.dep x.1
  have h2 := ok2.dep x.2
  simp only [encT2, PyData.depth, PyData.depthAll]
  omega, fun x y => by
  obtain ⟨a, b⟩ := x
  obtain ⟨c, d⟩ := y
  simp only [encT2, PyData.eqv, PyData.eqvAll, ok.eqv, ok2.eqv, Prod.mk.injEq]
  by_cases h1 : a = c <;> by_cases h2 : b = d <;> simp [h1, h2]⟩
theorem encOk_T3 (ok : EncOk n f) (ok2 : EncOk m g) (ok3 : EncOk l h) : EncOk (max n (max m l) + 1) (encT3 f g h) := ⟨fun x => by simp [encT3, PyData.canLay0, PyData.canLayAll0, ok.lay, ok2.lay, ok3.lay], fun x => by
  have h1 := ok.dep x.1
  have h2 := ok2.dep x.2.1
  have h3 := ok3.dep x.2.2
  simp only [encT3, PyData.depth, PyData.depthAll]
  omega, fun x y => by
  obtain ⟨a, b, e⟩ := x
  obtain ⟨c, d, e'⟩ := y
  simp only [encT3, PyData.eqv, PyData.eqvAll, ok.eqv, ok2.eqv, ok3.eqv, Prod.mk.injEq]
  by_cases h1 : a = c <;> by_cases h2 : b = d <;> by_cases h3 : e = e' <;> simp [h1, h2, h3]⟩
theorem encOk_T4 (ok : EncOk n f) (ok2 : EncOk m g) (ok3 : EncOk l h) (ok4 : EncOk o i) : EncOk (max n (max m (max l o)) + 1) (encT4 f g h i) := ⟨fun x => by simp [encT4, PyData.canLay0, PyData.canLayAll0, ok.lay, ok2.lay, ok3.lay, ok4.lay], fun x => by
  have h1 := ok.dep x.1
  have h2 := ok2.dep x.2.1
  have h3 := ok3.dep x.2.2.1
  have h4 := ok4.dep x.2.2.2
  simp only [encT4, PyData.depth, PyData.depthAll]
  omega, fun x y => by
  obtain ⟨a, b, e, u⟩ := x
  obtain ⟨c, d, e', u'⟩ := y
  simp only [encT4, PyData.eqv, PyData.eqvAll, ok.eqv, ok2.eqv, ok3.eqv, ok4.eqv, Prod.mk.injEq]
  by_cases h1 : a = c <;> by_cases h2 : b = d <;> by_cases h3 : e = e' <;> by_cases h4 : u = u' <;> simp [h1, h2, h3, h4]⟩
end
section
variable {X : Cx} {α : Type} [DecidableEq α] {n : Nat} {f : α → PyData}
def rEqT (f : α → PyData) : R2 := fun x y H Q => ∃ (a b : α), Rp H x (f a) ∧ Rp H y (f b) ∧ Q (.bl (decide (a = b))) H
def rNeT (f : α → PyData) : R2 := fun x y H Q => ∃ (a b : α), Rp H x (f a) ∧ Rp H y (f b) ∧ Q (.bl (!decide (a = b))) H
theorem shaped_of (ok : EncOk n f) (hn : n ≤ 64) (a : α) : SeqAt.shaped (f a) = true := by
  unfold SeqAt.shaped
  have h := ok.dep a
  rw [ok.lay]
  simp
  omega
theorem op_eqT (ok : EncOk n f) (hu : X.A.units + 64 < cLine) (hn : n ≤ 64 := by decide) : OpR X (compareOp .Eq) (rEqT f) := by
  intro pins s σ H x y v u Q I rx ry h
  obtain ⟨a, b, h1, h2, q⟩ := h
  exact op_eqD hu pins s σ H _ _ v u Q I rx ry ⟨_, _, h1.dp, h2.dp, shaped_of ok hn a, shaped_of ok hn b, by rw [ok.eqv]; exact q⟩
theorem op_neT (ok : EncOk n f) (hu : X.A.units + 64 < cLine) (hn : n ≤ 64 := by decide) : OpR X (compareOp .NotEq) (rNeT f) := by
  intro pins s σ H x y v u Q I rx ry h
  obtain ⟨a, b, h1, h2, q⟩ := h
  exact op_neD hu pins s σ H _ _ v u Q I rx ry ⟨_, _, h1.dp, h2.dp, shaped_of ok hn a, shaped_of ok hn b, by rw [ok.eqv]; exact q⟩
end
section
variable {H : Hp} {v : V} {α β γ δ : Type} {f : α → PyData} {g : β → PyData} {h : γ → PyData} {i : δ → PyData}
theorem rp_int {x : Int} (r : Rp H v (.int x)) : v = .int x := by cases r; rfl
theorem rp_bool {x : Bool} (r : Rp H v (.bool x)) : v = .bl x := by cases r; rfl
theorem rp_str {x : Str} (r : Rp H v (.str x)) : v = .str x := by cases r; rfl
theorem rp_list {xs : List α} (r : Rp H v (encL f xs)) : ∃ a vs, v = .ref a ∧ H a = some (.lst vs) ∧ RpAll H vs (xs.map f) := by
  unfold encL at r
  cases r with
  | lst h1 h2 => exact ⟨_, _, rfl, h1, h2⟩
theorem rpAll_ints : ∀ {vs : List V} {xs : List Int}, RpAll H vs (xs.map PyData.int) → vs = xs.map V.int
  | _, [], .nil => rfl
  | _, x :: xs, .cons r t => by rw [rp_int r, rpAll_ints t] <;> rfl
theorem rp_ints {xs : List Int} (r : Rp H v (encL PyData.int xs)) : ∃ a, v = .ref a ∧ H a = some (.lst (xs.map V.int)) := by
  obtain ⟨a, vs, e, h1, h2⟩ := rp_list r
  rw [rpAll_ints h2] at h1
  exact ⟨a, e, h1⟩
theorem rp_tup2 {x : α × β} (r : Rp H v (encT2 f g x)) : ∃ a v1 v2, v = .ref a ∧ H a = some (.tup [v1, v2]) ∧ Rp H v1 (f x.1) ∧ Rp H v2 (g x.2) := by
  unfold encT2 at r
  cases r with
  | tup h1 h2 =>
    cases h2 with
    | cons a b =>
      cases b with
      | cons b c =>
        cases c
        exact ⟨_, _, _, rfl, h1, a, b⟩
theorem rp_tup3 {x : α × β × γ} (r : Rp H v (encT3 f g h x)) : ∃ a v1 v2 v3, v = .ref a ∧ H a = some (.tup [v1, v2, v3]) ∧ Rp H v1 (f x.1) ∧ Rp H v2 (g x.2.1) ∧ Rp H v3 (h x.2.2) := by
  unfold encT3 at r
  cases r with
  | tup h1 h2 =>
    cases h2 with
    | cons a b =>
      cases b with
      | cons b c =>
        cases c with
        | cons c d =>
          cases d
          exact ⟨_, _, _, _, rfl, h1, a, b, c⟩
theorem rp_mk_list {a : Addr} {vs : List V} {xs : List α} (h1 : H a = some (.lst vs)) (h2 : RpAll H vs (xs.map f)) : Rp H (.ref a) (encL f xs) := .lst h1 h2
theorem rp_mk_ints {a : Addr} {xs : List Int} (h1 : H a = some (.lst (xs.map V.int))) : Rp H (.ref a) (encL PyData.int xs) := .lst h1 (RpAll.ints xs)
theorem rp_mk2 {a : Addr} {v1 v2 : V} {x : α} {y : β} (h1 : H a = some (.tup [v1, v2])) (r1 : Rp H v1 (f x)) (r2 : Rp H v2 (g y)) : Rp H (.ref a) (encT2 f g (x, y)) := .tup h1 (.cons r1 (.cons r2 .nil))
theorem rp_mk3 {a : Addr} {v1 v2 v3 : V} {x : α} {y : β} {z : γ} (h1 : H a = some (.tup [v1, v2, v3])) (r1 : Rp H v1 (f x)) (r2 : Rp H v2 (g y)) (r3 : Rp H v3 (h z)) : Rp H (.ref a) (encT3 f g h (x, y, z)) := .tup h1 (.cons r1 (.cons r2 (.cons r3 .nil)))
end

/-! ### the two heaps -/
def SameXs (L : List Addr) (H H' : Hp) : Prop := ∀ b o, H b = some o → b ∉ L → H' b = some o
theorem SameXs.of {H H' : Hp} {m : Addr} (x : SameX m H H') : SameXs [m] H H' := fun b o e n => x b o e (fun z => n (by rw [z]; exact List.mem_cons_self))
theorem ni1 {b m : Addr} (h : b ≠ m) : b ∉ [m] := by simpa using h
theorem ni2 {b m n : Addr} (h : b ≠ m) (h2 : b ≠ n) : b ∉ [m, n] := by simp [h, h2]
theorem ni3 {b m n o : Addr} (h : b ≠ m) (h2 : b ≠ n) (h3 : b ≠ o) : b ∉ [m, n, o] := by simp [h, h2, h3]
theorem ni4 {b m n o p : Addr} (h : b ≠ m) (h2 : b ≠ n) (h3 : b ≠ o) (h4 : b ≠ p) : b ∉ [m, n, o, p] := by simp [h, h2, h3, h4]
def hideL (L : List Addr) (H : Hp) : Hp := fun b => if b ∈ L then none else H b
theorem hideL_same (L : List Addr) (H : Hp) : Same (hideL L H) H := fun b o e => by
  unfold hideL at e
  split at e
  · cases e
  · exact e
theorem hideL_in {L : List Addr} {H : Hp} {b : Addr} (h : b ∈ L) : hideL L H b = none := if_pos h
theorem hideL_out {L : List Addr} {H : Hp} {b : Addr} (h : b ∉ L) : hideL L H b = H b := if_neg h
/-- M: owned from outside; H0, G0: at the entry; G: what stays as it is; O: what may change -/
structure Sep (M : List Addr) (H0 G0 G H : Hp) (O : List Addr) : Prop where
  base : SameXs M H0 H
  pm : ∀ a ∈ M, H a ≠ none
  sG : Same G H
  g0 : Same G0 G
  gn : ∀ b, H0 b ≠ none → G0 b = none → G b = none
  ow : ∀ a ∈ O, G a = none ∧ H a ≠ none ∧ (a ∈ M ∨ H0 a = none)
theorem all_nil {P : Addr → Prop} : ∀ x ∈ ([] : List Addr), P x := fun x h => by cases h
theorem all_cons {P : Addr → Prop} {a : Addr} {l : List Addr} (h : P a) (t : ∀ x ∈ l, P x) : ∀ x ∈ a :: l, P x := fun x hx => by
  cases hx with
  | head => exact h
  | tail _ hx => exact t x hx
theorem some_ne {H : Hp} {a : Addr} {o : HO} (h : H a = some o) : H a ≠ none := by
  rw [h]
  exact fun z => nomatch z
theorem same_ne {H H' : Hp} {a : Addr} (e : Same H H') (h : H a ≠ none) : H' a ≠ none := by
  cases q : H a with
  | none => exact absurd q h
  | some o => exact some_ne (e a o q)
section
variable {M : List Addr} {H0 G0 G H H' : Hp} {O : List Addr} {p m : Addr} {o : HO}
theorem Sep.start (M : List Addr) (H : Hp) (hM : ∀ a ∈ M, H a ≠ none) : Sep M H (hideL M H) (hideL M H) H M :=
  ⟨fun _ _ e _ => e, hM, hideL_same M H, Same.refl _, fun _ _ e => e, fun a ha => ⟨hideL_in ha, hM a ha, .inl ha⟩⟩
theorem Sep.startG {G H : Hp} (e : Same G H) : Sep [] H G G H [] := ⟨fun _ _ e _ => e, all_nil, e, Same.refl _, fun _ _ e => e, fun a ha => by cases ha⟩
theorem Sep.start0 (H : Hp) : Sep [] H H H H [] := Sep.startG (Same.refl H)
theorem Sep.b0 (S : Sep [] H0 G0 G H O) : Same H0 H := fun b o e => S.base b o e List.not_mem_nil
theorem Sep.free (S : Sep M H0 G0 G H O) {q : Addr} (n : H q = none) : H0 q = none := by
  cases e : H0 q with
  | none => rfl
  | some o =>
    by_cases h : q ∈ M
    · exact absurd n (S.pm q h)
    · rw [S.base q o e h] at n
      cases n
theorem Sep.same (S : Sep M H0 G0 G H O) (e : Same H H') : Sep M H0 G0 G H' O :=
  ⟨fun b o h n => e b o (S.base b o h n), fun a ha => same_ne e (S.pm a ha), S.sG.trans e, S.g0, S.gn, fun a ha => ⟨(S.ow a ha).1, same_ne e (S.ow a ha).2.1, (S.ow a ha).2.2⟩⟩
theorem Sep.gfree (S : Sep M H0 G0 G H O) {q : Addr} (n : H q = none) : G q = none := by
  cases e : G q with
  | none => rfl
  | some o => rw [S.sG q o e] at n; cases n
theorem Sep.new (S : Sep M H0 G0 G H O) (n : H p = none) (e : Same H H') (h : H' p = some o) (hm : H0 p = none) : Sep M H0 G0 G H' (p :: O) := by
  have S1 := S.same e
  refine ⟨S1.base, S1.pm, S1.sG, S1.g0, S1.gn, fun a ha => ?_⟩
  cases ha with
  | head => exact ⟨S.gfree n, some_ne h, .inr hm⟩
  | tail _ ha => exact S1.ow a ha
theorem Sep.grow (S : Sep M H0 G0 G H O) (n : H p = none) (e : Same H H') (h : H' p = some o) (hm : H0 p = none) : ∃ G', Same G G' ∧ G' p = some o ∧ Sep M H0 G0 G' H' O := by
  have S1 := S.same e
  have ng := S.gfree n
  refine ⟨upd G p o, fun b u q => by rw [upd_ne (ne_of_none q ng)]; exact q, upd_same, S1.base, S1.pm, fun b u q => ?_, fun b u q => ?_, fun b hb gb => ?_, fun a ha => ?_⟩
  · by_cases z : b = p
    · subst z
      rw [upd_same] at q
      exact q ▸ h
    · rw [upd_ne z] at q
      exact S1.sG b u q
  · have := S.g0 b u q
    rw [upd_ne (ne_of_none this ng)]
    exact this
  · by_cases z : b = p
    · subst z
      exact absurd hm hb
    · rw [upd_ne z]
      exact S.gn b hb gb
  · have hne : a ≠ p := fun z => (S.ow a ha).2.1 (by rw [z]; exact n)
    rw [upd_ne hne]
    exact S1.ow a ha
theorem Sep.mut (S : Sep M H0 G0 G H O) {L : List Addr} (x : SameXs L H H') (hL : ∀ a ∈ L, a ∈ O) (hs : ∀ a ∈ L, H' a ≠ none) : Sep M H0 G0 G H' O := by
  have keep : ∀ a, H a ≠ none → H' a ≠ none := fun a h => by
    by_cases hb : a ∈ L
    · exact hs a hb
    · cases q : H a with
      | none => exact absurd q h
      | some o => exact some_ne (x a o q hb)
  refine ⟨fun b o e n => ?_, fun a ha => keep a (S.pm a ha), fun b o e => ?_, S.g0, S.gn, fun a ha => ⟨(S.ow a ha).1, keep a (S.ow a ha).2.1, (S.ow a ha).2.2⟩⟩
  · refine x b o (S.base b o e n) fun hb => ?_
    rcases (S.ow b (hL b hb)).2.2 with z | z
    · exact n z
    · rw [e] at z; cases z
  · refine x b o (S.sG b o e) fun hb => ?_
    have := (S.ow b (hL b hb)).1
    rw [e] at this
    cases this
theorem Sep.mut1 (S : Sep M H0 G0 G H O) (x : SameX m H H') (hm : m ∈ O) (h : H' m = some o) : Sep M H0 G0 G H' O :=
  S.mut (SameXs.of x) (all_cons hm all_nil) (all_cons (some_ne h) all_nil)
theorem Sep.sub (S : Sep M H0 G0 G H O) {O' : List Addr} (h : ∀ a ∈ O', a ∈ O) : Sep M H0 G0 G H O' := ⟨S.base, S.pm, S.sG, S.g0, S.gn, fun a ha => S.ow a (h a ha)⟩
/-- what was owned and is to stay as it is from now on -/
theorem Sep.freeze (S : Sep M H0 G0 G H O) {O' : List Addr} (hp : p ∈ O) (h : H p = some o) (hm : H0 p = none) (hO : ∀ a ∈ O', a ∈ O ∧ a ≠ p) : ∃ G', Same G G' ∧ G' p = some o ∧ Sep M H0 G0 G' H O' := by
  have ng := (S.ow p hp).1
  refine ⟨upd G p o, fun b u q => by rw [upd_ne (ne_of_none q ng)]; exact q, upd_same, S.base, S.pm, fun b u q => ?_, fun b u q => ?_, fun b hb gb => ?_, fun a ha => ?_⟩
  · by_cases z : b = p
    · subst z
      rw [upd_same] at q
      exact q ▸ h
    · rw [upd_ne z] at q
      exact S.sG b u q
  · have := S.g0 b u q
    rw [upd_ne (ne_of_none this ng)]
    exact this
  · by_cases z : b = p
    · subst z
      exact absurd hm hb
    · rw [upd_ne z]
      exact S.gn b hb gb
  · rw [upd_ne (hO a ha).2]
    exact S.ow a (hO a ha).1
/-- a callee that hands on data in a stable heap of its own -/
theorem Sep.step (S : Sep M H0 G0 G H O) {G' : Hp} (e : Same H H') (eG : Same G G') (sG : Same G' H') (hn : ∀ b, H b ≠ none → G b = none → G' b = none) : Sep M H0 G0 G' H' O := by
  have S1 := S.same e
  refine ⟨S1.base, S1.pm, sG, S.g0.trans eG, fun b hb gb => ?_, fun a ha => ⟨hn a (S.ow a ha).2.1 (S.ow a ha).1, (S1.ow a ha).2⟩⟩
  refine hn b (fun z => ?_) (S.gn b hb gb)
  exact hb (S.free z)
theorem Sep.hid (S : Sep M H0 G0 G H O) {L : List Addr} (h : ∀ a ∈ L, a ∈ O) : Same G (hideL L H) := fun b o e => by
  rw [hideL_out fun z => by
    have := (S.ow b (h b z)).1
    rw [e] at this
    cases this]
  exact S.sG b o e
end
end Vx

namespace Vx
open PySem PySem.Spec PyProof.Rows L2
/-! ### lists of plain things (f : V.int, V.bl, V.str) -/
section
variable {α : Type} {f : α → V} {H : Hp} {p : Addr}
theorem cat_map {xs ys : List α} (h : H p = some (.lst (xs.map f ++ ys.map f))) : H p = some (.lst ((xs ++ ys).map f)) := by
  rw [List.map_append]; exact h
theorem snoc_map {xs : List α} {y : α} (h : H p = some (.lst (xs.map f ++ [f y]))) : H p = some (.lst ((xs ++ [y]).map f)) := by
  rw [List.map_append]; exact h
def repL (xs : List α) (k : Int) : List α := (List.replicate k.toNat xs).flatten
theorem rep_map {xs : List α} {k : Int} (h : H p = some (.lst (List.replicate k.toNat (xs.map f)).flatten)) : H p = some (.lst ((repL xs k).map f)) := by
  rw [h]
  unfold repL
  rw [List.map_flatten, List.map_replicate]
def cutL (xs : List α) (lo hi : Option Int) : List α := (xs.drop (HT.sIx xs.length 0 lo)).take (HT.sIx xs.length xs.length hi - HT.sIx xs.length 0 lo)
theorem cut_map {xs : List α} {lo hi : Option Int} (h : H p = some (.lst (cutV (xs.map f) lo hi))) : H p = some (.lst ((cutL xs lo hi).map f)) := by
  rw [h]
  unfold cutV cutL
  rw [List.length_map, List.map_take, List.map_drop]
theorem cast_map {xs ys : List α} (h : H p = some (.lst (xs.map f))) (e : xs = ys) : H p = some (.lst (ys.map f)) := e ▸ h
theorem drop_map {xs : List α} (h : H p = some (.lst (xs.map f).dropLast)) : H p = some (.lst (xs.dropLast.map f)) := by
  rw [h, List.map_dropLast]
theorem ixN_some {n : Nat} {k : Int} (h : -(n : Int) ≤ k ∧ k < n) : ∃ j, ixN n k = some j ∧ j < n := by
  unfold ixN
  by_cases h0 : 0 ≤ k
  · exact ⟨k.toNat, by rw [if_pos h0, if_pos h.2], by omega⟩
  · exact ⟨(k + n).toNat, by rw [if_neg h0, if_pos h.1], by omega⟩
def itD [Inhabited α] (xs : List α) (k : Int) : α := (atI xs k).getD default
theorem atI_map [Inhabited α] {xs : List α} {k : Int} (h : -(xs.length : Int) ≤ k ∧ k < xs.length) : atI (xs.map f) k = some (f (itD xs k)) := by
  obtain ⟨j, e, hj⟩ := ixN_some h
  unfold itD atI
  rw [List.length_map, e]
  show (xs.map f)[j]? = some (f ((xs[j]?).getD default))
  rw [List.getElem?_map, List.getElem?_eq_getElem hj] <;> rfl
def setL (xs : List α) (k : Int) (y : α) : List α := xs.set ((ixN xs.length k).getD 0) y
theorem ixN_map {xs : List α} {k : Int} (h : -(xs.length : Int) ≤ k ∧ k < xs.length) : ixN (xs.map f).length k = some ((ixN xs.length k).getD 0) := by
  obtain ⟨j, e, hj⟩ := ixN_some h
  rw [List.length_map, e] <;> rfl
theorem set_map {xs : List α} {k : Int} {y : α} (h : H p = some (.lst ((xs.map f).set ((ixN xs.length k).getD 0) (f y)))) : H p = some (.lst ((setL xs k y).map f)) := by
  rw [h]
  unfold setL
  rw [List.map_set]
def lastD [Inhabited α] (xs : List α) : α := xs.getLastD default
theorem pop_map [Inhabited α] {xs : List α} (h : xs ≠ []) : (xs.map f)[(xs.map f).length - 1]? = some (f (lastD xs)) := by
  rw [← List.getLast?_eq_getElem?, List.getLast?_map]
  unfold lastD
  cases e : xs.getLast? with
  | none => exact absurd (List.getLast?_eq_none_iff.mp e) h
  | some y =>
    rw [List.getLastD_eq_getLast?, e] <;> rfl
end
/-! ### lists of data -/
section
variable {α β : Type} {f : α → PyData} {g : β → PyData} {G : Hp} {vs ws : List V} {xs ys : List α}
theorem app_map (a : RpAll G vs (xs.map f)) (b : RpAll G ws (ys.map f)) : RpAll G (vs ++ ws) ((xs ++ ys).map f) := by
  rw [List.map_append]; exact a.append b
theorem one_map {v : V} {y : α} (a : RpAll G vs (xs.map f)) (b : Rp G v (f y)) : RpAll G (vs ++ [v]) ((xs ++ [y]).map f) := by
  rw [List.map_append]; exact a.append (.one b)
theorem rep_all (k : Int) (a : RpAll G vs (xs.map f)) : RpAll G (List.replicate k.toNat vs).flatten ((repL xs k).map f) := by
  unfold repL
  rw [List.map_flatten, List.map_replicate]
  exact a.rep _
theorem cut_all (lo hi : Option Int) (a : RpAll G vs (xs.map f)) : RpAll G (cutV vs lo hi) ((cutL xs lo hi).map f) := by
  unfold cutV cutL
  rw [a.len, List.length_map, List.map_take, List.map_drop]
  exact (a.drop _).take _
theorem rp_cast {v : V} {d e : PyData} (r : Rp G v d) (h : d = e) : Rp G v e := h ▸ r
theorem comp_listD {i : Nat} {x : α} {y : β} {v : V} {h : α → β} (hi : xs[i]? = some x) (a : RpAll G vs (((xs.take i).map h).map g)) (r : Rp G v (g y)) (e : h x = y) : RpAll G (vs ++ [v]) (((xs.take (i + 1)).map h).map g) := by
  rw [take_succ_get hi, List.map_append, List.map_append]
  exact a.append (.one (e ▸ r))
theorem comp_rangeD {i : Nat} {y : β} {v : V} {h : Nat → β} (a : RpAll G vs (((List.range i).map h).map g)) (r : Rp G v (g y)) (e : h i = y) : RpAll G (vs ++ [v]) (((List.range (i + 1)).map h).map g) := by
  rw [List.range_succ, List.map_append, List.map_append]
  exact a.append (.one (e ▸ r))
theorem comp_doneD {n : Nat} {h : List α → List β} (hl : n = xs.length) (a : RpAll G vs ((h (xs.take n)).map g)) : RpAll G vs ((h xs).map g) := by
  rw [hl, List.take_length] at a
  exact a
theorem comp_listFD {i : Nat} {x : α} {y : β} {v : V} {h : α → β} {q : α → Bool} (hi : xs[i]? = some x) (hq : q x = true) (a : RpAll G vs ((((xs.take i).filter q).map h).map g)) (r : Rp G v (g y)) (e : h x = y) : RpAll G (vs ++ [v]) ((((xs.take (i + 1)).filter q).map h).map g) := by
  rw [take_succ_get hi, List.filter_append, List.filter_cons, if_pos hq, List.map_append, List.map_append]
  exact a.append (.one (e ▸ r))
theorem skip_listD {i : Nat} {x : α} {h : α → β} {q : α → Bool} (hi : xs[i]? = some x) (hq : q x = false) (a : RpAll G vs ((((xs.take i).filter q).map h).map g)) : RpAll G vs ((((xs.take (i + 1)).filter q).map h).map g) := by
  rw [take_succ_get hi, List.filter_append, List.filter_cons, if_neg (by rw [hq]; decide), List.filter_nil, List.append_nil]
  exact a
end
section
variable {α β : Type} {f : β → V} {H : Hp} {D : Addr} {xs : List α}
theorem compM_list {i : Nat} {x : α} {y : β} {h : α → β} (hi : xs[i]? = some x) (a : H D = some (.lst (((xs.take i).map h).map f ++ [f y]))) (e : h x = y) : H D = some (.lst (((xs.take (i + 1)).map h).map f)) := by
  rw [a, ← e, take_succ_get hi, List.map_append, List.map_append] <;> rfl
theorem compM_range {i : Nat} {y : β} {h : Nat → β} (a : H D = some (.lst (((List.range i).map h).map f ++ [f y]))) (e : h i = y) : H D = some (.lst (((List.range (i + 1)).map h).map f)) := by
  rw [a, ← e, List.range_succ, List.map_append, List.map_append] <;> rfl
theorem compM_done {n : Nat} {h : List α → List β} (hl : n = xs.length) (a : H D = some (.lst ((h (xs.take n)).map f))) : H D = some (.lst ((h xs).map f)) := by
  rw [hl, List.take_length] at a
  exact a
theorem compM_listF {i : Nat} {x : α} {y : β} {h : α → β} {q : α → Bool} (hi : xs[i]? = some x) (hq : q x = true) (a : H D = some (.lst ((((xs.take i).filter q).map h).map f ++ [f y]))) (e : h x = y) : H D = some (.lst ((((xs.take (i + 1)).filter q).map h).map f)) := by
  rw [a, ← e, take_succ_get hi, List.filter_append, List.filter_cons, if_pos hq, List.map_append, List.map_append] <;> rfl
theorem skipM_list {i : Nat} {x : α} {h : α → β} {q : α → Bool} (hi : xs[i]? = some x) (hq : q x = false) (a : H D = some (.lst ((((xs.take i).filter q).map h).map f))) : H D = some (.lst ((((xs.take (i + 1)).filter q).map h).map f)) := by
  rw [a, take_succ_get hi, List.filter_append, List.filter_cons, if_neg (by rw [hq]; decide), List.filter_nil, List.append_nil]
theorem compM_rangeF {i : Nat} {y : β} {h : Nat → β} {q : Nat → Bool} (hq : q i = true) (a : H D = some (.lst ((((List.range i).filter q).map h).map f ++ [f y]))) (e : h i = y) : H D = some (.lst ((((List.range (i + 1)).filter q).map h).map f)) := by
  rw [a, ← e, List.range_succ, List.filter_append, List.filter_cons, if_pos hq, List.map_append, List.map_append] <;> rfl
theorem skipM_range {i : Nat} {h : Nat → β} {q : Nat → Bool} (hq : q i = false) (a : H D = some (.lst ((((List.range i).filter q).map h).map f))) : H D = some (.lst ((((List.range (i + 1)).filter q).map h).map f)) := by
  rw [a, List.range_succ, List.filter_append, List.filter_cons, if_neg (by rw [hq]; decide), List.filter_nil, List.append_nil]
end
/-! ### more rules -/
section
variable {X : Cx} {K : PySem.W.Frag}
theorem ix_tupK (hK : X.K = K := by rfl) : IxR X (rIxT K) := hK ▸ ix_tup
def rLenLK (K : PySem.W.Frag) : List V → Hp → VK → Prop := fun xs H Q => ∃ (p : Addr) (vs : List V) (n : Nat), xs = [.ref p] ∧ SqL K H p vs ∧ vs.length = n ∧ Q (.int (n : Int)) H
theorem call_lenLK (hK : X.K = K := by rfl) : CallR X (.builtin "len") (rLenLK K) := by
  subst hK
  intro pins s σ H xs us Q I r h
  obtain ⟨p, vs, n, rfl, hs, hn, q⟩ := h
  exact call_len_seq pins s σ H _ us Q I r ⟨p, _, rfl, Or.inl hs, by rw [hn]; exact q⟩
def rListLK (K : PySem.W.Frag) : List V → Hp → VK → Prop := fun xs H Q => ∃ (p : Addr) (vs : List V), xs = [.ref p] ∧ SqL K H p vs ∧ ∀ l, H l = none → Q (.ref l) (upd H l (.lst vs))
theorem call_listLK (hK : X.K = K := by rfl) : CallR X (.type "list") (rListLK K) := by
  subst hK
  intro pins s σ H xs us Q I r h
  obtain ⟨p, vs, rfl, hs, q⟩ := h
  exact call_list_of pins s σ H _ us Q I r ⟨p, _, rfl, Or.inl hs, q⟩
theorem cr_anyK (hc : X.calm = true) (hK : X.K = K := by rfl) : CallR X (.builtin "any") (rAny K) := hK ▸ cr_any hc
theorem cr_allK (hc : X.calm = true) (hK : X.K = K := by rfl) : CallR X (.builtin "all") (rAll K) := hK ▸ cr_all hc
theorem pi_tupK {tg l : Expr} {tl : TE} (hl : PE X l tl) (hK : X.K = K := by rfl) : PI X tg l (iTup K tl) := hK ▸ pi_tup hl
theorem pip {op : Operator} {r : R2} (h : OpR X (inplaceOp op) r) : PIp X op r := fun pins s σ H x y v u Q I rx ry q => h pins s σ H x y v u Q I rx ry q
/-- an item at a place from 0 on, by itself (ahead of o[i] op= e) -/
def rIxP (K : PySem.W.Frag) : R2 := fun x y H Q => ∃ (p : Addr) (xs : List V) (k : Int) (v : V), x = .ref p ∧ y = .int k ∧ SqL K H p xs ∧ 0 ≤ k ∧ k < 2 ^ 62 ∧ atI xs k = some v ∧ Q v H
theorem pget_list (hK : X.K = K := by rfl) : PGet X (rIxP K) := by
  subst hK
  intro pins s σ H o i ov iv Q I ro ri h
  obtain ⟨p, xs, k, v, rfl, rfl, hq, h0, h62, ha, q⟩ := h
  cases ro
  obtain ⟨t, rfl⟩ := ri
  obtain ⟨its, r, pl, hz⟩ := I.list hq
  obtain ⟨j, h1, h2, h3, h4, h5⟩ := atI_get ha
  obtain ⟨w, ew, rw'⟩ := r.get h2
  have hj : k.toNat = j := by
    rw [seqIndex_of h0 h5] at h1
    exact Option.some.inj h1
  exact getItem_listL pl.isList h0 (by omega) (by rw [hj]; simpa using ew) ⟨v, H, I, rw', q⟩
theorem tru_map {α : Type} [DecidableEq α] {f : α → V} {xs : List α} : (!decide (xs = [])) = !(xs.map f).isEmpty := by
  cases xs <;> simp
end
end Vx

namespace Vx
open PySem PySem.Spec PyProof.Rows L2
/-! ### objects -/
section
variable {M : List Addr} {H0 G0 G H H' : Hp} {O : List Addr} {p m : Addr} {o : HO}
theorem gen_obj {x dx : Addr} {o1 o2 : HO} (nx : H x = none) (nd : H dx = none) (ne : dx ≠ x) (h : upd (upd H dx o1) x o2 = H') : Same H H' ∧ H' x = some o2 := by
  subst h
  exact ⟨fun b u e => by rw [upd_ne (ne_of_none e nx), upd_ne (ne_of_none e nd)]; exact e, upd_same⟩
theorem sameX_of {m : Addr} (x : SameXs [m] H H') : SameX m H H' := fun b o e n => x b o e (by simpa using n)
theorem g_ne {a b : Addr} (h : G a = some o) (S : Sep M H0 G0 G H O) (hb : b ∈ O) : a ≠ b := fun z => by
  have := (S.ow b hb).1
  rw [← z, h] at this
  cases this
/-- an object whose making has laid some lists -/
theorem Sep.mutnew (S : Sep M H0 G0 G H O) {L : List Addr} (x : SameXs L H H') (hL : ∀ a ∈ L, a ∈ O) (hs : ∀ a ∈ L, H' a ≠ none) (hn : H p = none) (hp : H' p ≠ none) (h0 : H0 p = none) : Sep M H0 G0 G H' (p :: O) := by
  have S1 := S.mut x hL hs
  refine ⟨S1.base, S1.pm, S1.sG, S1.g0, S1.gn, all_cons ⟨S.gfree hn, hp, .inr h0⟩ S1.ow⟩
theorem Sep.init (S : Sep M H0 G0 G H O) (x : SameX m H H') (hm : m ∈ O) (h : H' m = some o) (L : List Addr) (hL : ∀ a ∈ L, H a = none ∧ H' a ≠ none ∧ H0 a = none) : Sep M H0 G0 G H' (L ++ O) := by
  have S1 := S.mut1 x hm h
  refine ⟨S1.base, S1.pm, S1.sG, S1.g0, S1.gn, fun a ha => ?_⟩
  rcases List.mem_append.mp ha with z | z
  · obtain ⟨h1, h2, h3⟩ := hL a z
    exact ⟨S.gfree h1, h2, .inr h3⟩
  · exact S1.ow a z
end
section
variable {P : Program} {w : World} {K : PySem.W.Frag} {mg : Str → Option Value} {base : Heap}
structure MethIn (K : PySem.W.Frag) (C : Addr) (q m : Str) (st : Stmt) (ps : List Str) : Prop where
  ex : ∃ (f : Addr) (fd : FuncData), Fun K m q st f fd ∧ Meth K C m f ∧ Binds K fd ps []
structure PropIn (K : PySem.W.Frag) (C : Addr) (q m : Str) (st : Stmt) (ps : List Str) : Prop where
  ex : ∃ (r f : Addr) (fd : FuncData), Fun K m q st f fd ∧ PropOf K C m r f ∧ Binds K fd ps []
structure InitIn (K : PySem.W.Frag) (mg : Str → Option Value) (C : Addr) (cn q : Str) (st : Stmt) (ps : List Str) : Prop where
  ex : ∃ (f : Addr) (fd : FuncData), Fun K "__init__" q st f fd ∧ Mk K C f ∧ mg cn = some (.ref C) ∧ Binds K fd ps []
structure MetC (P : Program) (w : World) (K : PySem.W.Frag) (mg : Str → Option Value) (base : Heap) (k : Nat) (C : Addr) (m : Str) (sp : Sp) : Prop where
  ex : ∃ (f : Addr) (fd : FuncData) (ps : List Str), Cls K C ∧ Meth K C m f ∧ FnOk P w K mg base CX0 k f fd ps sp ∧ Binds K fd ps []
structure PropC (P : Program) (w : World) (K : PySem.W.Frag) (mg : Str → Option Value) (base : Heap) (k : Nat) (C : Addr) (m : Str) (sp : Sp) : Prop where
  ex : ∃ (q f : Addr) (fd : FuncData) (ps : List Str), Cls K C ∧ PropOf K C m q f ∧ FnOk P w K mg base CX0 k f fd ps sp ∧ Binds K fd ps []
structure MakC (P : Program) (w : World) (K : PySem.W.Frag) (mg : Str → Option Value) (base : Heap) (k : Nat) (cn : Str) (C : Addr) (sp : Sp) : Prop where
  ex : ∃ (f : Addr) (fd : FuncData) (ps : List Str), Mk K C f ∧ FnOk P w K mg base CX0 k f fd ps sp ∧ mg cn = some (.ref C) ∧ Binds K fd ps []
abbrev Body (P : Program) (w : World) (K : PySem.W.Frag) (mg : Str → Option Value) (base : Heap) (x : Str) (st : Stmt) (N : List Str) (k : Nat) (sp : Sp) : Prop :=
  ∀ (f : Addr) (cdv : Value) (A : Around) (outer : List Env) (s : Shared) (H : Hp) (vs : List V) (Q : VK) (E : XK), Room k (A.deeper (envOfC x (defScope st) s.heap.objs.size f cdv)) → sp vs H Q E →
    ∃ t, PSs (cxOf CX0 P w K mg base N x (defScope st) f cdv A outer s H E).nox (defBody st) t ∧ t { nx := fun _ H' => Q .non H', rt := Q } (start N vs) H
theorem MethIn.ok {C : Addr} {q m : Str} {st : Stmt} {N ps : List Str} {k : Nat} {sp : Sp} (D : MethIn K C q m st ps) (c : Cls K C) (S : FnScope N ps (defScope st)) (len : ∀ vs H Q E, sp vs H Q E → vs.length = ps.length)
    (hbody : Body P w K mg base q st N k sp) : MetC P w K mg base (k + 1) C m sp := by
  obtain ⟨f, fd, F, me, b⟩ := D.ex
  exact ⟨f, fd, ps, c, me, F.ok S len (fun cdv A outer s H vs Q E hr h => hbody f cdv A outer s H vs Q E hr h), b⟩
theorem PropIn.ok {C : Addr} {q m : Str} {st : Stmt} {N ps : List Str} {k : Nat} {sp : Sp} (D : PropIn K C q m st ps) (c : Cls K C) (S : FnScope N ps (defScope st)) (len : ∀ vs H Q E, sp vs H Q E → vs.length = ps.length)
    (hbody : Body P w K mg base q st N k sp) : PropC P w K mg base (k + 1) C m sp := by
  obtain ⟨r, f, fd, F, me, b⟩ := D.ex
  exact ⟨r, f, fd, ps, c, me, F.ok S len (fun cdv A outer s H vs Q E hr h => hbody f cdv A outer s H vs Q E hr h), b⟩
theorem InitIn.ok {C : Addr} {cn q : Str} {st : Stmt} {N ps : List Str} {k : Nat} {sp : Sp} (D : InitIn K mg C cn q st ps) (S : FnScope N ps (defScope st)) (len : ∀ vs H Q E, sp vs H Q E → vs.length = ps.length)
    (hbody : Body P w K mg base q st N k sp) : MakC P w K mg base (k + 1) cn C sp := by
  obtain ⟨f, fd, F, me, hm, b⟩ := D.ex
  exact ⟨f, fd, ps, me, F.ok S len (fun cdv A outer s H vs Q E hr h => hbody f cdv A outer s H vs Q E hr h), hm, b⟩
end
section
variable {X : Cx} {k j : Nat} {C : Addr} {x m : Str} {sp : Sp} {p pos apos : Pos} {e o : Expr} {es : List Expr} {ta : TE} {t : TA}
theorem vx_call0 (c : Cal X.prog X.w X.K X.mg X.base k x sp) (hr : Room j X.A) (hk : k ≤ j) (hg : Gl X x) (hdb : (x == ("__debug__" : Str)) = false := by decide) : PE X (.Call (.Name x p) [] [] pos) (tCall sp [] E0 tNil) := by
  obtain ⟨f, fd, ps, F, hm, kp, b⟩ := c.ex
  exact pe_call0 F (hr.mono hk) hg hm kp b .nil pass0 hdb
theorem vx_make (c : MakC X.prog X.w X.K X.mg X.base k x C sp) (hr : Room j X.A) (hk : k + 1 ≤ j) (hg : Gl X x) (ha : PA X (e :: es) t)
    (hdb : (x == ("__debug__" : Str)) = false := by decide) (he : starEach (e :: es) X.env = (false, eval e X.env) :: starEach es X.env := by rfl) (hpl : (backTo pos (starEach es X.env)).any (·.1) = false := by rfl) :
    PE X (.Call (.Name x p) (e :: es) [] pos) (tMake C sp [] E0 t) := by
  obtain ⟨f, fd, ps, M, F, hm, b⟩ := c.ex
  exact pe_make M F (hr.mono hk) hg hm b .nil pass0 ha hdb he hpl
theorem vx_make0 (c : MakC X.prog X.w X.K X.mg X.base k x C sp) (hr : Room j X.A) (hk : k + 1 ≤ j) (hg : Gl X x) (hdb : (x == ("__debug__" : Str)) = false := by decide) :
    PE X (.Call (.Name x p) [] [] pos) (tMake C sp [] E0 tNil) := by
  obtain ⟨f, fd, ps, M, F, hm, b⟩ := c.ex
  exact pe_make0 M F (hr.mono hk) hg hm b .nil pass0 hdb
theorem vx_meth {pl : Sem Bool} (c : MetC X.prog X.w X.K X.mg X.base k C m sp) (hr : Room j X.A) (hk : k ≤ j) (he : PE X o ta) (ha : PA X (e :: es) t)
    (hst : starEach (e :: es) X.env = (false, eval e X.env) :: starEach es X.env := by rfl) (hpl : (backTo pos (starEach es X.env)).any (·.1) = false := by rfl)
    (ht : eval (.Call (.Attribute o m apos) (e :: es) [] pos) X.env = (do
      let ov ← eval o X.env
      standAt apos.atName
      let (f, first) ← holding [ov] (getMethod ov m pl)
      callWith pos f first (backTo pos (starEach (e :: es) X.env)) (backToKw pos (keywordEach [] X.env))) := by rfl) :
    PE X (.Call (.Attribute o m apos) (e :: es) [] pos) (tMeth C m sp [] E0 ta t) := by
  obtain ⟨f, fd, ps, hc, hm, F, b⟩ := c.ex
  exact pe_meth he hc hm F (hr.mono hk) b .nil pass0 ha hst hpl ht
theorem vx_meth0 {pl : Sem Bool} (c : MetC X.prog X.w X.K X.mg X.base k C m sp) (hr : Room j X.A) (hk : k ≤ j) (he : PE X o ta)
    (ht : eval (.Call (.Attribute o m apos) [] [] pos) X.env = (do
      let ov ← eval o X.env
      standAt apos.atName
      let (f, first) ← holding [ov] (getMethod ov m pl)
      callWith pos f first (backTo pos (starEach [] X.env)) (backToKw pos (keywordEach [] X.env))) := by rfl) :
    PE X (.Call (.Attribute o m apos) [] [] pos) (tMeth C m sp [] E0 ta tNil) := by
  obtain ⟨f, fd, ps, hc, hm, F, b⟩ := c.ex
  exact pe_meth0 he hc hm F (hr.mono hk) b .nil pass0 ht
theorem vx_prop (c : PropC X.prog X.w X.K X.mg X.base k C m sp) (hr : Room j X.A) (hk : k + 1 ≤ j) (he : PE X o ta) (hab : attributeBase o m X.env (eval o X.env) = eval o X.env) : PE X (.Attribute o m pos) (tProp C sp [] E0 ta) := by
  obtain ⟨q, f, fd, ps, hc, hp, F, b⟩ := c.ex
  exact pe_prop he hc hp F (hr.mono hk) b .nil pass0 hab
end
theorem iteBNT {b : Bool} {A B : Prop} (h : b = false) (k : A) : if (!b) = true then A else B := by rw [h]; exact iteT k
theorem iteNN {b : Bool} {A B : Prop} (h : if b = true then A else B) : if (!!b) = true then A else B := by rw [Bool.not_not]; exact h
theorem iteBNF {b : Bool} {A B : Prop} (h : b = true) (k : B) : if (!b) = true then A else B := by rw [h]; exact iteF k
theorem shl_side {i j : Int} (h0 : 0 ≤ j) (h1 : j ≤ 4096) (h2 : -(2 ^ 4096) < i) (h3 : i < 2 ^ 4096) : CShl i j := by
  obtain ⟨k, rfl⟩ := Int.eq_ofNat_of_zero_le h0
  exact shl_ok (n := 4096) (by omega) (by omega)
end Vx

namespace Vx
open PySem PySem.Spec PyProof.Rows L2
section
variable {X : Cx} {K : PySem.W.Frag}
theorem fldK {e : Expr} {f : Str} {pos : Pos} {ta : TE} (he : PE X e ta) (hb : attributeBase e f X.env (eval e X.env) = eval e X.env := by rfl) (hK : X.K = K := by rfl) : PE X (.Attribute e f pos) (tFld K ta f) := hK ▸ pe_fld he hb
theorem pg_tupK {es : List Expr} {k : Nat} {t : TGs} {n : Nat} {pos : Pos} (h : PGs X es t) (hc : X.calm = true := by rfl)
    (hn : (assignEach es X.env).length = n := by rfl) (hst : (assignEach es X.env).findIdx? (·.1) = none := by rfl) (hK : X.K = K := by rfl) : PG X (.Tuple es k pos) (gTup K n t) := hK ▸ pg_tup hc h hn hst
end
end Vx

namespace Vx
open PySem PySem.Spec PyProof.Rows L2
section
variable {α β : Type} {f : α → PyData} {g : β → PyData} {fv : α → V} {gv : β → V} {G : Hp} {vs ws : List V} {xs : List α} {ys : List β}
theorem big1 {n : Nat} (h : n ≤ 1000000) : n ≤ sizeLine := smallE h
theorem cat_len (a : RpAll G vs (xs.map f)) (b : RpAll G ws (ys.map g)) (h : xs.length + ys.length ≤ 1000000) : vs.length + ws.length ≤ sizeLine := by
  rw [a.len, b.len, List.length_map, List.length_map]; exact smallE h
theorem cat_lenM (h : xs.length + ys.length ≤ 1000000) : (xs.map fv).length + (ys.map gv).length ≤ sizeLine := by
  rw [List.length_map, List.length_map]; exact smallE h
theorem rep_len {k : Nat} (a : RpAll G vs (xs.map f)) (h : xs.length * k ≤ 1000000) : vs.length * k ≤ sizeLine := by
  rw [a.len, List.length_map]; exact smallE h
theorem rep_lenM {k : Nat} (h : xs.length * k ≤ 1000000) : (xs.map fv).length * k ≤ sizeLine := by
  rw [List.length_map]; exact smallE h
theorem app_len (a : RpAll G vs (xs.map f)) (h : xs.length ≤ 1000000) : vs.length < sizeLine := by
  rw [a.len, List.length_map]; exact small h
theorem app_lenM (h : xs.length ≤ 1000000) : (xs.map fv).length < sizeLine := by
  rw [List.length_map]; exact small h
theorem cutL_len {α : Type} (xs : List α) (lo hi : Option Int) : (cutL xs lo hi).length ≤ xs.length := by
  unfold cutL
  rw [List.length_take, List.length_drop]
  omega
theorem repL_len {α : Type} (xs : List α) (k : Int) : (repL xs k).length = k.toNat * xs.length := by
  unfold repL
  simp
end
end Vx
/-! # promises of defs that know that nothing is being shown (so that repr may be called) -/
namespace Vx
open PySem PySem.Spec PyProof.Rows L2
structure RoomG (k : Nat) (A : Around) : Prop extends Room k A where
  gd : A.guards = some []
theorem RoomG.low {j k : Nat} {A : Around} (r : RoomG k A) (h : j ≤ k) : RoomG j A := ⟨r.toRoom.mono h, r.gd⟩
theorem RoomG.one {k : Nat} {A : Around} (r : RoomG (k + 1) A) : RoomG k A.in1 := ⟨r.toRoom.in1, r.gd⟩
theorem make_gd {A : Around} (C : Addr) (us : List Value) (kw : List (Str × Value)) (h : A.guards = some []) : (A.under (.builtin "type.__call__" ⟨.ref C :: us, kw⟩)).guards = some [] := by
  obtain ⟨hd, d, fr, gs, u⟩ := A
  subst h
  simp [Around.under, Code.guards, Code.isGuard, guardIds, pushGuards]
theorem RoomG.made {k : Nat} {A : Around} (r : RoomG (k + 1) A) (C : Addr) (us : List Value) (kw : List (Str × Value)) : RoomG k (A.under (.builtin "type.__call__" ⟨.ref C :: us, kw⟩)) := ⟨r.toRoom.make C us kw, make_gd C us kw r.gd⟩
structure FnG (P : Program) (w : World) (K : PySem.W.Frag) (mg : Str → Option Value) (base : Heap) (cx : CXT) (k : Nat) (f : Addr) (fd : FuncData) (ps : List Str) (sp : Sp) : Prop where
  len : ∀ vs H Q E, sp vs H Q E → vs.length = ps.length
  run : ∀ (A : Around) (outer : List Env) (s : Shared) (H : Hp) (args : Args) (us : List Value) (vs : List V) (Q : VK) (E : XK), RoomG k A → Env0 P w K mg base A outer s H → BindsTo s fd args (ps.zip us) → Vals vs us → sp vs H Q E → codeAny (model P w) A (.call (.ref f) args) (CR cx outer P w H s Q E) s
section
variable {P : Program} {w : World} {K : PySem.W.Frag} {mg : Str → Option Value} {base : Heap} {cx : CXT} {j k : Nat} {f : Addr} {fd : FuncData} {ps : List Str} {sp sp' : Sp}
theorem FnG.imp (F : FnG P w K mg base cx k f fd ps sp) (h : ∀ vs H Q E, sp' vs H Q E → sp vs H Q E) : FnG P w K mg base cx k f fd ps sp' := ⟨fun vs H Q E q => F.len vs H Q E (h vs H Q E q), fun A o s H a us vs Q E r e b v q => F.run A o s H a us vs Q E r e b v (h vs H Q E q)⟩
/-- the body's promise is the def's -/
theorem FnG.body {x qual : Str} {params : Arguments} {body : List Stmt} {scope : Scope} {dvs : List V} {kws : List (Str × V)} {N : List Str} (F : FunD K x qual params body scope dvs kws f fd) (S : FnScope N ps scope) (len : ∀ vs H Q E, sp vs H Q E → vs.length = ps.length)
    (hb : ∀ (cdv : Value) (A : Around) (outer : List Env) (s : Shared) (H : Hp) (vs : List V) (Q : VK) (E : XK), RoomG k (A.deeper (envOfC qual scope s.heap.objs.size f cdv)) → sp vs H Q E →
      ∃ t, PSs (cxOf cx P w K mg base N qual scope f cdv A outer s H E) body t ∧ t { nx := fun _ H' => Q .non H', rt := Q } (start N vs) H) : FnG P w K mg base cx (k + 1) f fd ps sp := by
  obtain ⟨oc, od, dV, kV, doc, pm, an, cdv, ct, osl, rfl, lk, code, _, _⟩ := F.ex
  constructor
  · exact len
  · intro A outer s H args us vs Q E room env binds vals prom
    have nvs := len vs H Q E prom
    have kin : K.In s.heap := env.mod.kin.keeps fun b o q => (env.bs b o q).1
    have nolim : s.heap.NoLimit := env.mod.nolimit.keeps fun b o q => (env.bs b o q).1
    have kinds : ∀ q ∈ ps.zip us, scope.names.lookup q.1 = some .local ∨ (scope.names.lookup q.1 = some .cell ∧ ((cellsFrom (s.heap.objs.size + 1) scope.names []).lookup q.1).isSome = true) := by
      rintro ⟨n, v⟩ hq
      cases S.par n (List.of_mem_zip hq).1 with
      | inl z => exact .inl z
      | inr z => exact .inr ⟨z, PySem.W.cellsFrom_some _ _ _ (.inl z)⟩
    refine codeAny_call_function room.toRoom.depth (kin _ _ lk) rfl S.co S.gen rfl (PySem.W.codeRec_of kin code) (binds _ _ _ _ ?_)
    refine wpAny_newFunctionEnv_cells S.kind kinds ?_
    rintro _ rfl s1 made
    refine ⟨nolim.keeps made.toInCall.keep, codeAny_func ?_⟩
    obtain ⟨t, pss, start_⟩ := hb cdv A outer s H vs Q E ⟨room.toRoom.deeper _, room.gd⟩ prom
    have inv := inv_start (CX := cx) (E := E) S room.hd env nvs vals made
    have close : ∀ {τ : L2.St} {H2 : Hp} {v : V} {u : Value} {s2 : Shared}, Inv (cxOf cx P w K mg base N qual scope f cdv A outer s H E) [] τ H2 s2 → RelV v u → Q v H2 → CE outer P w H s Q u s2 := fun inv2 rel q => ⟨_, _, inv2.os, inv2.bare, inv2.base, inv2.hok, rel, q⟩
    refine wpAny_mono (pss.run [] s1 (start N vs) H _ inv start_) ?_ fun _ _ z => z
    intro flow s2 out
    cases flow with
    | next =>
      obtain ⟨τ, H2, inv2, q⟩ := out
      exact close (v := .non) (u := .none) inv2 rfl q
    | ret u =>
      obtain ⟨v, τ, H2, inv2, rel, q⟩ := out
      exact close inv2 rel q
    | brk =>
      obtain ⟨_, _, _, q⟩ := out
      exact q.elim
    | cont =>
      obtain ⟨_, _, _, q⟩ := out
      exact q.elim
/-- the same of a body that nothing leaves -/
theorem FnG.bodyN {x qual : Str} {params : Arguments} {body : List Stmt} {scope : Scope} {dvs : List V} {kws : List (Str × V)} {N : List Str} (F : FunD K x qual params body scope dvs kws f fd) (S : FnScope N ps scope) (len : ∀ vs H Q E, sp vs H Q E → vs.length = ps.length)
    (hb : ∀ (cdv : Value) (A : Around) (outer : List Env) (s : Shared) (H : Hp) (vs : List V) (Q : VK) (E : XK), RoomG k (A.deeper (envOfC qual scope s.heap.objs.size f cdv)) → sp vs H Q E →
      ∃ t, PSs (cxOf CX0 P w K mg base N qual scope f cdv A outer s H E).nox body t ∧ t { nx := fun _ H' => Q .non H', rt := Q } (start N vs) H) : FnG P w K mg base CX0 (k + 1) f fd ps sp :=
  FnG.body F S len fun cdv A outer s H vs Q E r p => by
    obtain ⟨t, h, q⟩ := hb cdv A outer s H vs Q E r p
    exact ⟨t, h.nox, q⟩
end
/-- where a law's call begins: an abstract heap that tells the script at most -/
theorem law_start {P : Program} {w : World} {K : PySem.W.Frag} {mg mb : Str → Option Value} {a : Addr} {s : Shared} {vs : List Value} {ns : List Int} (kin : K.In s.heap) (top : s.heap.Ns mainGlobals mg) (blt : s.heap.Ns builtinsNs mb) (boot : ∀ y : Str, y ≠ "__name__" → mb y = bootBuiltins y)
    (lim : s.heap.NoLimit) (gens : s.gens = #[]) (script : s.heap.get? a = some { cls := .type "list", data := .seq vs.toArray }) (whole : IntsAre vs ns) (short : ns.length ≤ sizeLine) :
    ∃ (H : Hp) (base : Heap), SqL K H a (ns.map V.int) ∧ K.In base ∧ base.Ns mainGlobals mg ∧ Env0 P w K mg base callerA [] s H ∧
      ∀ (Z : V → Prop) (u : Value) (s2 : Shared), CE [] P w H s (fun v _ => Z v) u s2 → (∃ v, RelV v u ∧ Z v) ∧ OldK s.heap s2.heap ∧ s2.os = s.os ∧ AllBare s2.gens := by
  have rel := vals_ints whole
  have lenV := whole.length
  -- any H that tells no more than the script, and that only where the written part does not hold it, will do
  have fits : ∀ H : Hp, (∀ b, H b = none ∨ ∃ o xs, H b = some (.frz o (.lst xs))) → SqL K H a (ns.map V.int) → HOk P w H s.heap → (∀ b, b ≠ a → H b = none) → (∀ o, K.lookup a = some o → H a = none) →
      ∃ (H : Hp) (base : Heap), SqL K H a (ns.map V.int) ∧ K.In base ∧ base.Ns mainGlobals mg ∧ Env0 P w K mg base callerA [] s H ∧
        ∀ (Z : V → Prop) (u : Value) (s2 : Shared), CE [] P w H s (fun v _ => Z v) u s2 → (∃ v, RelV v u ∧ Z v) ∧ OldK s.heap s2.heap ∧ s2.os = s.os ∧ AllBare s2.gens := by
    intro H only seq ok else_ apart
    have dictFree : ∀ (b : Addr) (o : Obj) (es : Array DictEntry) (n : Nat), s.heap.get? b = some o → o.data = .dict es n → H b = none := by
      intro b o es n e d
      by_cases z : b = a
      · subst z
        rw [script] at e
        injection e with e
        subst e
        cases d
      · exact else_ b z
    have nsOf : ∀ {b : Addr} {m : Str → Option Value}, s.heap.Ns b m → (hidT s.heap H).Ns b m := by
      rintro b m ⟨o, es, n, e, d, r⟩
      exact ⟨o, es, n, hidT_get e (dictFree b o es n e d), d, r⟩
    have kinB : K.In (hidT s.heap H) := by
      intro b o e
      refine hidT_get (kin b o e) ?_
      by_cases z : b = a
      · subst z
        exact apart o e
      · exact else_ b z
    obtain ⟨mc, lim1, lim2⟩ := lim
    refine ⟨H, hidT s.heap H, seq, kinB, nsOf top, ⟨rfl, ⟨kinB, nsOf top, ⟨mb, nsOf blt, boot⟩, mc, nsOf lim1, lim2⟩, fun b o e => of_hidT e, Nat.le_of_eq (hidT_size _ _), trivial, fun b hb => (nomatch (show b ∈ ([] : List Addr) from hb)), ok, .of_eq gens⟩, ?_⟩
    rintro Z u s2 ⟨v, H2, os, bare, un, ok2, r, z⟩
    refine ⟨⟨v, r, z⟩, OldK.of_keep fun b o e => ?_, os, bare⟩
    rcases only b with n | ⟨o1, xs, n⟩
    · exact un.keep b o e n (fun y => nomatch (show b ∈ ([] : List Addr) from y)) (fun y => nomatch y)
    · obtain ⟨e1, _⟩ := ok b _ n
      obtain ⟨e2, _⟩ := ok2 b _ (un.frzs b o1 _ n)
      rw [e] at e1
      injection e1 with e1
      subst e1
      exact e2
  cases kl : K.lookup a with
  | some o =>
    have e := kin a o kl
    rw [script] at e
    injection e with e
    subst e
    exact fits (fun _ => none) (fun _ => .inl rfl) (.inr ⟨_, vs.toArray, _, kl, rfl, rfl, rfl, by rw [List.size_toArray, lenV]; exact short, by simpa using rel⟩) (fun _ _ z => nomatch z) (fun _ _ => rfl) fun _ _ => rfl
  | none =>
    refine fits (fun b => if b = a then some (.frz { cls := .type "list", data := .seq vs.toArray } (.lst (ns.map V.int))) else none) ?_ (.inl (.inr ⟨_, if_pos rfl⟩)) ?_ (fun b n => if_neg n) fun o z => ?_
    · intro b
      by_cases z : b = a
      · exact .inr ⟨_, _, if_pos z⟩
      · exact .inl (if_neg z)
    · intro b u q
      by_cases z : b = a
      · subst z
        have q := (if_pos rfl).symm.trans q
        injection q with q
        subst q
        exact ⟨script, by rw [List.length_map]; exact short, vs, _, rel, script⟩
      · have q := (if_neg z).symm.trans q
        cases q
    · rw [kl] at z
      cases z
/-- the goal that the head leaves, from the law's promise; the script's numbers have at most 2 ^ 20 bits -/
theorem walkG {l : PySem.W.OpenLaw} {n k : Nat} {q : Program} {loose : List Str} {XP : (Str → Option Value) → Heap → Prop} {YP : World → Heap → Prop} {d : DefRec} {K : Params → PySem.W.Frag} {x : Str} (hn : l.most = some n) (hn2 : n ≤ sizeLine) (hdf : d.params.defaults = []) (room : Room k callerA)
    (hY : ∀ (w : World) (h : Heap), YP w h → (K w.params).In h)
    (F : ∀ (w : World) (mg : Str → Option Value) (fa : Addr) (h : Heap), (K w.params).In h → h.Ns mainGlobals mg → mg d.name = some (.ref fa) →
      ∃ fd : FuncData, (∀ (s : Shared) (u : Value), BindsTo s fd ⟨[u], []⟩ [(x, u)]) ∧ ∀ base : Heap, (K w.params).In base → base.Ns mainGlobals mg → FnG l.prog w (K w.params) mg base CX0 k fa fd [x] (fun vs H Q _ => ∃ (a : Addr) (ns : List Int), vs = [.ref a] ∧ SqL (K w.params) H a (ns.map V.int) ∧ ns.length ≤ n ∧ ∀ H', Q (.bl true) H')) :
    PySem.W.WalkO q loose XP YP l.row.toRowW d [] (fun f vs => PySem.call f vs) := by
  refine Att.attach_call hn hdf ?_
  intro w s₀ s₁ mg mb fa o pm cd doc a vs ns G Y _ _ _ hmg script whole short gens
  have kin := hY w _ Y
  obtain ⟨fd, bind, prom⟩ := F w mg fa _ kin G.T.g hmg
  obtain ⟨H, base, seq, kinB, nsB, env, fin⟩ := law_start (P := l.prog) (w := w) kin G.T.g G.T.b G.T.builtins G.T.nolimit gens script whole (Nat.le_trans short hn2)
  refine codeAny_mono ((prom base kinB nsB).run callerA [] s₁ H ⟨[.ref a], []⟩ [.ref a] [.ref a] (fun v _ => v = .bl true) (fun _ _ _ => False) ⟨room, rfl⟩ env (bind s₁ (.ref a)) (.cons rfl .nil) ⟨a, ns, rfl, seq, short, fun _ => rfl⟩) ?_
  intro r s2 out
  cases r with
  | error e => exact out.elim
  | ok flow =>
    cases flow with
    | ret u =>
      obtain ⟨⟨v, rv, z⟩, h1, h2, h3⟩ := fin (fun v => v = .bl true) u s2 out
      subst z
      obtain rfl : u = Value.bool true := rv
      exact ⟨rfl, h1, h2, h3⟩
    | next => exact out.elim
    | brk => exact out.elim
    | cont => exact out.elim
end Vx
/-! # third part: what a def computes, as a plain function with refusals -/
namespace Vx
open PySem PySem.Spec PyProof.Rows L2
inductive Rx (α : Type) where
  | ok (a : α)
  | er (e : Nat)
  | bad
def Rx.bind {α β : Type} (m : Rx α) (f : α → Rx β) : Rx β :=
  match m with
  | .ok a => f a
  | .er e => .er e
  | .bad => .bad
/-- what is wanted of an outcome -/
@[irreducible] def cW {α : Type} (m : Rx α) (K : α → Prop) (E : Nat → Prop) : Prop :=
  match m with
  | .ok a => K a
  | .er e => E e
  | .bad => False
def grd {α : Type} (p : Prop) [Decidable p] (m : Rx α) : Rx α := if p then m else .bad
/-- within a comprehension nothing may be raised -/
def noEr {α : Type} (m : Rx α) : Rx α :=
  match m with
  | .ok a => .ok a
  | _ => .bad
/-- what the clause does not name may not come -/
def tryR {α β : Type} (m : Rx α) (cs : List Nat) (f : α → Rx β) (h : Nat → Rx β) : Rx β :=
  match m with
  | .ok a => f a
  | .er e => if e ∈ cs then h e else .bad
  | .bad => .bad
def bnd {α β : Type} (a : α) (f : α → Rx β) : Rx β := f a
inductive Lp (σ ρ : Type) where
  | go (s : σ)
  | bk (s : σ)
  | rt (r : ρ)
def Lp.aft {σ ρ τ : Type} (l : Lp σ ρ) (kr : ρ → Rx τ) (k : σ → Rx τ) : Rx τ :=
  match l with
  | .go s => k s
  | .bk s => k s
  | .rt r => kr r
def forS {σ α : Type} : List α → σ → (σ → α → Rx σ) → Rx σ
  | [], s, _ => .ok s
  | x :: r, s, f => (f s x).bind fun s' => forS r s' f
def forR {σ α ρ : Type} : List α → σ → (σ → α → Rx (Lp σ ρ)) → Rx (Lp σ ρ)
  | [], s, _ => .ok (.go s)
  | x :: r, s, f => (f s x).bind fun l =>
    match l with
    | .go s' => forR r s' f
    | .bk s' => .ok (.go s')
    | .rt v => .ok (.rt v)
def whileR {σ ρ : Type} : Nat → σ → (σ → Rx (Lp σ ρ)) → Rx (Lp σ ρ)
  | 0, _, _ => .bad
  | n + 1, s, f => (f s).bind fun l =>
    match l with
    | .go s' => whileR n s' f
    | .bk s' => .ok (.go s')
    | .rt v => .ok (.rt v)
def mapA {α β : Type} : List α → List β → (α → Rx β) → Rx (List β)
  | [], acc, _ => .ok acc
  | x :: r, acc, f => grd (acc.length ≤ 1000000) ((f x).bind fun y => mapA r (acc ++ [y]) f)
def mapF {α β : Type} : List α → List β → (α → Rx (Option β)) → Rx (List β)
  | [], acc, _ => .ok acc
  | x :: r, acc, f => grd (acc.length ≤ 1000000) ((f x).bind fun y =>
    match y with
    | some z => mapF r (acc ++ [z]) f
    | none => mapF r acc f)
section
variable {α β γ σ ρ τ : Type} {K : α → Prop} {E : Nat → Prop}
theorem cW_ok {a : α} (h : cW (.ok a) K E) : K a := by
  unfold cW at h
  exact h
theorem cW_er {e : Nat} (h : cW (.er e : Rx α) K E) : E e := by
  unfold cW at h
  exact h
theorem cW_bad {C : Prop} (h : cW (.bad : Rx α) K E) : C := by
  unfold cW at h
  exact h.elim
theorem cW_mk {a : α} (h : K a) : cW (.ok a) K E := by
  unfold cW
  exact h
theorem cW_mkE {e : Nat} (h : E e) : cW (.er e : Rx α) K E := by
  unfold cW
  exact h
theorem cW_gen {m : Rx α} (h : cW m K E) : ∃ (K' : α → Prop) (E' : Nat → Prop), (∀ v, K' v → K v) ∧ (∀ e, E' e → E e) ∧ cW m K' E' := ⟨K, E, fun _ x => x, fun _ x => x, h⟩
theorem cW_grd {p : Prop} {dp : Decidable p} {m : Rx α} (h : cW (grd p m) K E) : p ∧ cW m K E := by
  unfold grd at h
  split at h
  · exact ⟨‹p›, h⟩
  · exact cW_bad h
theorem cW_pos {p : Prop} {dp : Decidable p} {a b : Rx α} (c : p) (h : cW (if p then a else b) K E) : cW a K E := by rwa [if_pos c] at h
theorem cW_neg {p : Prop} {dp : Decidable p} {a b : Rx α} (c : ¬ p) (h : cW (if p then a else b) K E) : cW b K E := by rwa [if_neg c] at h
theorem cW_call {m : Rx β} {f : β → Rx α} {K2 : β → Prop} {E2 : Nat → Prop} (h : cW (m.bind f) K E) (ho : ∀ v, cW (f v) K E → K2 v) (he : ∀ e, E e → E2 e) : cW m K2 E2 := by
  cases m with
  | ok a => exact cW_mk (ho a h)
  | er e => exact cW_mkE (he e (cW_er (α := α) h))
  | bad => exact cW_bad (α := α) h
theorem cW_push {m : Rx β} {f : β → Rx α} (h : cW (m.bind f) K E) : ∃ K2 : β → Prop, (∀ v, K2 v → cW (f v) K E) ∧ cW m K2 E := ⟨fun v => cW (f v) K E, fun _ x => x, cW_call h (fun _ x => x) fun _ x => x⟩
theorem cW_name {m : Rx α} (h : cW m K E) : ∃ K' : α → Prop, (∀ v, K' v → K v) ∧ cW m K' E := ⟨K, fun _ x => x, h⟩
theorem cW_noEr {m : Rx α} (h : cW (noEr m) K E) : cW m K (fun _ => False) := by
  cases m with
  | ok a => exact cW_mk (cW_ok (α := α) h)
  | er e => exact cW_bad (α := α) h
  | bad => exact cW_bad (α := α) h
theorem cW_try {m : Rx β} {cs : List Nat} {f : β → Rx α} {g : Nat → Rx α} {K2 : β → Prop} {E2 : Nat → Prop} (h : cW (tryR m cs f g) K E) (ho : ∀ v, cW (f v) K E → K2 v) (hc : ∀ e, e ∈ cs → cW (g e) K E → E2 e) : cW m K2 E2 := by
  cases m with
  | ok a => exact cW_mk (ho a h)
  | er e =>
    have h2 : cW (if e ∈ cs then g e else .bad) K E := h
    by_cases q : e ∈ cs
    · exact cW_mkE (hc e q (cW_pos q h2))
    · exact cW_bad (cW_neg q h2)
  | bad => exact cW_bad (α := α) h
theorem cW_bnd {a : β} {f : β → Rx α} (h : cW (bnd a f) K E) : cW (f a) K E := h
theorem cW_negB {b : Bool} {x y : Rx α} (c : b = false) (h : cW (if b = true then x else y) K E) : cW y K E := cW_neg (by rw [c]; decide) h
theorem cW_forS {xs : List β} {i : Nat} {x : β} {s : α} {f : α → β → Rx α} (hx : xs[i]? = some x) (h : cW (forS (xs.drop i) s f) K E) : cW (f s x) (fun s' => cW (forS (xs.drop (i + 1)) s' f) K E) E := by
  rw [List.drop_eq_getElem?_toList_append, hx] at h
  exact cW_call h (fun _ z => z) fun _ z => z
theorem cW_forS0 {xs : List β} {n : Nat} {s : α} {f : α → β → Rx α} (hn : n = xs.length) (h : cW (forS (xs.drop n) s f) K E) : K s := by
  subst hn
  rw [List.drop_length] at h
  exact cW_ok h
theorem cW_forR {K : Lp σ ρ → Prop} {xs : List β} {i : Nat} {x : β} {s : σ} {f : σ → β → Rx (Lp σ ρ)} (hx : xs[i]? = some x) (h : cW (forR (xs.drop i) s f) K E) :
    cW (f s x) (fun l => match l with | .go s' => cW (forR (xs.drop (i + 1)) s' f) K E | .bk s' => K (.go s') | .rt v => K (.rt v)) E := by
  rw [List.drop_eq_getElem?_toList_append, hx] at h
  refine cW_call h (fun l z => ?_) fun _ z => z
  cases l with
  | go s' => exact z
  | bk s' => exact cW_ok (K := K) (a := .go s') z
  | rt v => exact cW_ok (K := K) (a := .rt v) z
theorem cW_forR0 {K : Lp σ ρ → Prop} {xs : List β} {n : Nat} {s : σ} {f : σ → β → Rx (Lp σ ρ)} (hn : n = xs.length) (h : cW (forR (xs.drop n) s f) K E) : K (.go s) := by
  subst hn
  rw [List.drop_length] at h
  exact cW_ok h
theorem cW_whileR {K : Lp σ ρ → Prop} {m : Nat} {s : σ} {f : σ → Rx (Lp σ ρ)} (h : cW (whileR m s f) K E) :
    ∃ n, m = n + 1 ∧ cW (f s) (fun l => match l with | .go s' => cW (whileR n s' f) K E | .bk s' => K (.go s') | .rt v => K (.rt v)) E := by
  cases m with
  | zero => exact cW_bad h
  | succ n =>
    refine ⟨n, rfl, cW_call h (fun l z => ?_) fun _ z => z⟩
    cases l with
    | go s' => exact z
    | bk s' => exact cW_ok (K := K) (a := .go s') z
    | rt v => exact cW_ok (K := K) (a := .rt v) z
theorem cW_mapA {K : List α → Prop} {xs : List β} {acc : List α} {i : Nat} {x : β} {f : β → Rx α} (hx : xs[i]? = some x) (h : cW (mapA (xs.drop i) acc f) K E) :
    acc.length ≤ 1000000 ∧ cW (f x) (fun y => cW (mapA (xs.drop (i + 1)) (acc ++ [y]) f) K E) E := by
  rw [List.drop_eq_getElem?_toList_append, hx] at h
  obtain ⟨z, h⟩ := cW_grd h
  exact ⟨z, cW_call h (fun _ z => z) fun _ z => z⟩
theorem cW_mapA0 {K : List α → Prop} {xs : List β} {acc : List α} {n : Nat} {f : β → Rx α} (hn : n = xs.length) (h : cW (mapA (xs.drop n) acc f) K E) : K acc := by
  subst hn
  rw [List.drop_length] at h
  exact cW_ok h
theorem cW_mapF {K : List α → Prop} {xs : List β} {acc : List α} {i : Nat} {x : β} {f : β → Rx (Option α)} (hx : xs[i]? = some x) (h : cW (mapF (xs.drop i) acc f) K E) :
    acc.length ≤ 1000000 ∧ cW (f x) (fun y => match y with | some z => cW (mapF (xs.drop (i + 1)) (acc ++ [z]) f) K E | none => cW (mapF (xs.drop (i + 1)) acc f) K E) E := by
  rw [List.drop_eq_getElem?_toList_append, hx] at h
  obtain ⟨z, h⟩ := cW_grd h
  refine ⟨z, cW_call h (fun y z => ?_) fun _ z => z⟩
  cases y with
  | none => exact z
  | some w => exact z
theorem cW_mapF0 {K : List α → Prop} {xs : List β} {acc : List α} {n : Nat} {f : β → Rx (Option α)} (hn : n = xs.length) (h : cW (mapF (xs.drop n) acc f) K E) : K acc := by
  subst hn
  rw [List.drop_length] at h
  exact cW_ok h
end
/-- the numbers of a range -/
def rng (lo : Int) (n : Nat) : List Int := (List.range n).map fun (j : Nat) => lo + (j : Int)
theorem rng_get {lo : Int} {n i : Nat} (h : i < n) : (rng lo n)[i]? = some (lo + (i : Int)) := by
  unfold rng
  rw [List.getElem?_map, List.getElem?_range h] <;> rfl
theorem rng_len (lo : Int) (n : Nat) : (rng lo n).length = n := by
  unfold rng
  rw [List.length_map, List.length_range]

def rngD (lo : Int) (n : Nat) : List Int := (List.range n).map fun (j : Nat) => lo + (j : Int) * (-1)
theorem rngD_get {lo : Int} {n i : Nat} (h : i < n) : (rngD lo n)[i]? = some (lo + (i : Int) * (-1)) := by
  unfold rngD
  rw [List.getElem?_map, List.getElem?_range h] <;> rfl
theorem rngD_len (lo : Int) (n : Nat) : (rngD lo n).length = n := by
  unfold rngD
  rw [List.length_map, List.length_range]

/-! ### calls that may raise -/
/-- what a call with n values and keywords ks gives the parameters -/
structure Bnd (K : PySem.W.Frag) (fd : FuncData) (ps : List Str) (n : Nat) (ks : List Str) (g : List V → List V → List V) : Prop where
  to : ∀ (s : Shared) (us ws : List Value) (vs zs : List V), K.In s.heap → vs.length = n → zs.length = ks.length → Vals vs us → Vals zs ws → ∃ vv : List Value, BindsTo s fd ⟨us, ks.zip ws⟩ (ps.zip vv) ∧ Vals (g vs zs) vv
theorem Bnd.of_kbn {K : PySem.W.Frag} {fd : FuncData} {ps ks : List Str} {n : Nat} {g : List Value → List Value → List Value} {gV : List V → List V → List V} (b : KBn K fd ps n ks g gV) : Bnd K fd ps n ks gV :=
  ⟨fun s us ws vs zs X l1 l2 r rz => ⟨g us ws, b.to s us ws X (r.length.symm.trans l1) (rz.length.symm.trans l2), b.rel r rz⟩⟩
theorem Bnd.all {K : PySem.W.Frag} {fd : FuncData} {ps ks : List Str} {n : Nat} {g : List V → List V → List V} (h : ∀ (us ws : List Value) (vs zs : List V), vs.length = n → zs.length = ks.length → Vals vs us → Vals zs ws →
    ∃ vv : List Value, bindArgs fd ⟨us, ks.zip ws⟩ = pure (ps.zip vv) ∧ Vals (g vs zs) vv) : Bnd K fd ps n ks g :=
  ⟨fun s us ws vs zs _ l1 l2 r rz => by
    obtain ⟨vv, e, q⟩ := h us ws vs zs l1 l2 r rz
    exact ⟨vv, BindsTo.of_eq e, q⟩⟩
abbrev Pat := Nat × List Str × (List V → List V → List V)
def Bnd1 (K : PySem.W.Frag) (fd : FuncData) (ps : List Str) (p : Pat) : Prop := Bnd K fd ps p.1 p.2.1 p.2.2
section
variable {P : Program} {w : World} {K : PySem.W.Frag} {mg : Str → Option Value} {base : Heap}
/-- a def of the top, with the ways it is called -/
structure DefX (K : PySem.W.Frag) (mg : Str → Option Value) (x : Str) (st : Stmt) (ps : List Str) (pats : List Pat) : Prop where
  ex : ∃ (f : Addr) (fd : FuncData) (dvs : List V) (kws : List (Str × V)), FunD K x x (defArgs st) (defBody st) (defScope st) dvs kws f fd ∧ mg x = some (.ref f) ∧ ∀ p ∈ pats, Bnd1 K fd ps p
structure CalX (P : Program) (w : World) (K : PySem.W.Frag) (mg : Str → Option Value) (base : Heap) (k : Nat) (x : Str) (sp : Sp) (pats : List Pat) : Prop where
  ex : ∃ (f : Addr) (fd : FuncData) (ps : List Str), FnG P w K mg base (L2.CX P w) k f fd ps sp ∧ mg x = some (.ref f) ∧ PySem.W.keepIn K (.ref f) = true ∧ ∀ p ∈ pats, Bnd1 K fd ps p
abbrev BodyX (P : Program) (w : World) (K : PySem.W.Frag) (mg : Str → Option Value) (base : Heap) (x : Str) (st : Stmt) (N : List Str) (k : Nat) (sp : Sp) : Prop :=
  ∀ (f : Addr) (cdv : Value) (A : Around) (outer : List Env) (s : Shared) (H : Hp) (vs : List V) (Q : VK) (E : XK), RoomG k (A.deeper (envOfC x (defScope st) s.heap.objs.size f cdv)) → sp vs H Q E →
    ∃ t, PSs (cxOf (L2.CX P w) P w K mg base N x (defScope st) f cdv A outer s H E) (defBody st) t ∧ t { nx := fun _ H' => Q .non H', rt := Q } (start N vs) H
theorem DefX.ok {x : Str} {st : Stmt} {N ps : List Str} {pats : List Pat} {k : Nat} {sp : Sp} (D : DefX K mg x st ps pats) (S : FnScope N ps (defScope st)) (len : ∀ vs H Q E, sp vs H Q E → vs.length = ps.length)
    (hbody : BodyX P w K mg base x st N k sp) : CalX P w K mg base (k + 1) x sp pats := by
  obtain ⟨f, fd, dvs, kws, F, hm, b⟩ := D.ex
  exact ⟨f, fd, ps, FnG.body F S len (fun cdv A outer s H vs Q E hr h => hbody f cdv A outer s H vs Q E hr h), hm, F.kp, b⟩
end
section
variable {X : Cx} {k j n : Nat} {f : Addr} {fd : FuncData} {ps ks : List Str} {g : List V → List V → List V} {sp : Sp} {x : Str} {pos p : Pos} {e : Expr} {es : List Expr} {kws : List Keyword} {t tk : TA} {W : WX}
theorem run_X {pins : List (Addr × Obj)} {σ : L2.St} {H : Hp} {s : Shared} {Q : VK} {us ws : List Value} {vs zs : List V} (F : FnG X.prog X.w X.K X.mg X.base (L2.CX X.prog X.w) k f fd ps sp) (hr : RoomG k X.A) (hb : Bnd X.K fd ps n ks g) (tkW : Takes X W)
    (I : Inv X pins σ H s) (r : Vals vs us) (rz : Vals zs ws) (l1 : vs.length = n) (l2 : zs.length = ks.length) (h : sp (g vs zs) H Q (WE W σ)) :
    wpAny (model X.prog X.w) X.A (call (.ref f) us (ks.zip ws)) (EP X pins σ Q) X.xe s := by
  obtain ⟨vv, b, r2⟩ := hb.to s us ws vs zs I.kIn l1 l2 r rz
  refine wpAny_call (codeAny_mono (F.run X.A X.stack s H ⟨us, ks.zip ws⟩ vv (g vs zs) Q (WE W σ) hr I.env0 b r2 h) fun rr s' hq => ?_)
  cases rr with
  | error er => exact passAt tkW σ pins H s er s' I hq
  | ok fl =>
    cases fl with
    | ret u => exact I.after hq
    | next => exact hq.elim
    | brk => exact hq.elim
    | cont => exact hq.elim
/-- f(e, .., k = v, ..) -/
def tCallX (n m : Nat) (sp : Sp) (g : List V → List V → List V) (W : WX) (t tk : TA) : TE := fun σ H Q => t σ H fun vs H1 => tk σ H1 fun zs H2 => vs.length = n ∧ zs.length = m ∧ sp (g vs zs) H2 Q (WE W σ)
theorem vx_callX {pats : List Pat} (c : CalX X.prog X.w X.K X.mg X.base k x sp pats) (pt : Pat) (hpt : pt ∈ pats) (hr : RoomG j X.A) (hk : k ≤ j) (tkW : Takes X W) (hg : Gl X x) (ha : PA X (e :: es) t) (hkw : PK X kws tk)
    (hall : (backToKw pos (keywordEach kws X.env)).all (·.1.isSome) = true := by rfl) (hks : (backToKw pos (keywordEach kws X.env)).filterMap (·.1) = pt.2.1 := by rfl)
    (hdb : (x == ("__debug__" : Str)) = false := by decide) (he : starEach (e :: es) X.env = (false, eval e X.env) :: starEach es X.env := by rfl)
    (hpl : ((backTo pos (starEach (e :: es) X.env)).any (·.1) || (backToKw pos (keywordEach kws X.env)).any (·.1.isNone)) = false := by rfl) :
    PE X (.Call (.Name x p) (e :: es) kws pos) (tCallX pt.1 pt.2.1.length sp pt.2.2 W t tk) := by
  obtain ⟨f, fd, ps, F, hm, kp, b⟩ := c.ex
  refine ⟨fun pins s σ H Q I h => ?_⟩
  refine wpAny_Call_Name_kw (ld_glob I hg hm ?_ hdb)
  refine PySem.W.callWith_KW (h₀ := X.base) I.ok.mod.kin kp hall (thn (ha.run pos pins s σ H _ I h) fun us s1 ⟨vs, H1, I1, r, q⟩ => ?_) hpl he
  refine thn (hkw.run pos pins s1 σ H1 _ I1 q) fun ws s2 ⟨zs, H2, I2, rz, l1, l2, q2⟩ => ⟨I2.kIn, ?_⟩
  rw [hks]
  exact run_X F (hr.low hk) (b pt hpt) tkW I2 r rz l1 l2 q2
theorem vx_callX0 {pats : List Pat} (c : CalX X.prog X.w X.K X.mg X.base k x sp pats) (pt : Pat) (hpt : pt ∈ pats) (hr : RoomG j X.A) (hk : k ≤ j) (tkW : Takes X W) (hg : Gl X x) (hks : pt.2.1 = [] := by rfl)
    (hdb : (x == ("__debug__" : Str)) = false := by decide) : PE X (.Call (.Name x p) [] [] pos) (tCallX pt.1 pt.2.1.length sp pt.2.2 W tNil tNil) := by
  obtain ⟨f, fd, ps, F, hm, kp, b⟩ := c.ex
  refine ⟨fun pins s σ H Q I h => ?_⟩
  refine wpAny_Call_Name_kw (ld_glob I hg hm ?_ hdb)
  obtain ⟨l1, l2, q2⟩ := h
  have hz := run_X (us := []) (ws := []) F (hr.low hk) (b pt hpt) tkW I .nil .nil l1 l2 q2
  rw [hks] at hz
  exact PySem.W.callWith_K0 I.kIn kp hz
end
/-! ### borrowed things -/
theorem Sep.bM {M : List Addr} {H0 G0 G H : Hp} {O : List (Addr)} (S : Sep M H0 G0 G H O) : Same (hideL M H0) H := fun b o e => by
  by_cases h : b ∈ M
  · rw [hideL_in h] at e
    cases e
  · rw [hideL_out h] at e
    exact S.base b o e h
theorem b_ne {M : List Addr} {H0 G0 G H : Hp} {O : List Addr} {a b : Addr} {o : HO} (h : (hideL M H0) a = some o) (S : Sep M H0 G0 G H O) (hb : b ∈ O) : a ≠ b := fun z => by
  subst z
  rcases (S.ow a hb).2.2 with q | q
  · rw [hideL_in q] at h
    cases h
  · by_cases hM : a ∈ M
    · rw [hideL_in hM] at h
      cases h
    · rw [hideL_out hM, q] at h
      cases h
theorem hide0 {H : Hp} : hideL [] H = H := by
  funext b
  unfold hideL
  rw [if_neg List.not_mem_nil]
theorem hide_nil {H : Hp} {a : Addr} {o : HO} (h : H a = some o) : (hideL [] H) a = some o := by
  rw [hide0]
  exact h
theorem Rp.hide_nil {H : Hp} {v : V} {d : PyData} (h : Rp H v d) : Rp (hideL [] H) v d := by
  rw [hide0]
  exact h
theorem Sep.startM {M : List Addr} {G H : Hp} (e : Same G H) (hM : ∀ a ∈ M, H a ≠ none) (hG : ∀ a ∈ M, G a = none) : Sep M H G G H M :=
  ⟨fun _ _ e _ => e, hM, e, Same.refl _, fun _ _ e => e, fun a ha => ⟨hG a ha, hM a ha, .inl ha⟩⟩
theorem Sep.gno {M : List Addr} {H0 G0 G H : Hp} {O L : List Addr} (S : Sep M H0 G0 G H O) (h : ∀ a ∈ L, a ∈ O) : ∀ a ∈ L, G a = none := fun a ha => (S.ow a (h a ha)).1
theorem RpAll.ixD {α : Type} [Inhabited α] {f : α → PyData} {H : Hp} {vs : List V} {xs : List α} {k : Int} (r : RpAll H vs (xs.map f)) (h : -(xs.length : Int) ≤ k ∧ k < xs.length) : ∃ v, atI vs k = some v ∧ Rp H v (f (itD xs k)) := by
  obtain ⟨v, x, h1, h2, h3⟩ := RpAll.ix r h
  refine ⟨v, h1, ?_⟩
  unfold itD
  rw [h2]
  exact h3
theorem tru_all {α : Type} [DecidableEq α] {f : α → PyData} {H : Hp} {vs : List V} {xs : List α} (r : RpAll H vs (xs.map f)) : (!decide (xs = [])) = !vs.isEmpty := by
  have h := r.len
  rw [List.length_map] at h
  cases xs <;> cases vs <;> simp_all
theorem ix_nn {α : Type} {xs : List α} {k : Int} (h0 : 0 ≤ k) (h1 : k < xs.length) : -(xs.length : Int) ≤ k ∧ k < xs.length := ⟨by omega, h1⟩
theorem all_nilQ {α : Type} {P : α → Prop} : ∀ x ∈ ([] : List α), P x := fun x h => by cases h
theorem all_consQ {α : Type} {P : α → Prop} {a : α} {l : List α} (h : P a) (t : ∀ x ∈ l, P x) : ∀ x ∈ a :: l, P x := fun x hx => by
  rcases List.mem_cons.mp hx with rfl | hx
  · exact h
  · exact t x hx
theorem mem_one {a b : Nat} (h : a ∈ [b]) : a = b := by simpa using h
theorem mem_cons2 {a b : Nat} {l : List Nat} (h : a ∈ b :: l) : a = b ∨ a ∈ l := List.mem_cons.mp h
theorem len0 {α : Type} {l : List α} (h : l.length = 0) : l = [] := List.length_eq_zero_iff.mp h
theorem len1 {α : Type} {l : List α} (h : l.length = 1) : ∃ a, l = [a] := List.length_eq_one_iff.mp h
theorem len_s {α : Type} {l : List α} {n : Nat} (h : l.length = n + 1) : ∃ a r, l = a :: r ∧ r.length = n := by
  cases l with
  | nil => cases h
  | cons a r => exact ⟨a, r, rfl, Nat.succ.inj h⟩
theorem len2 {α : Type} {l : List α} (h : l.length = 2) : ∃ a b, l = [a, b] := by
  obtain ⟨a, r, rfl, h2⟩ := len_s h
  obtain ⟨b, rfl⟩ := len1 h2
  exact ⟨a, b, rfl⟩
theorem len3 {α : Type} {l : List α} (h : l.length = 3) : ∃ a b c, l = [a, b, c] := by
  obtain ⟨a, r, rfl, h2⟩ := len_s h
  obtain ⟨b, c, rfl⟩ := len2 h2
  exact ⟨a, b, c, rfl⟩
theorem len4 {α : Type} {l : List α} (h : l.length = 4) : ∃ a b c d, l = [a, b, c, d] := by
  obtain ⟨a, r, rfl, h2⟩ := len_s h
  obtain ⟨b, c, d, rfl⟩ := len3 h2
  exact ⟨a, b, c, d, rfl⟩
theorem len5 {α : Type} {l : List α} (h : l.length = 5) : ∃ a b c d e, l = [a, b, c, d, e] := by
  obtain ⟨a, r, rfl, h2⟩ := len_s h
  obtain ⟨b, c, d, e, rfl⟩ := len4 h2
  exact ⟨a, b, c, d, e, rfl⟩
theorem len6 {α : Type} {l : List α} (h : l.length = 6) : ∃ a b c d e f, l = [a, b, c, d, e, f] := by
  obtain ⟨a, r, rfl, h2⟩ := len_s h
  obtain ⟨b, c, d, e, f, rfl⟩ := len5 h2
  exact ⟨a, b, c, d, e, f, rfl⟩
theorem len7 {α : Type} {l : List α} (h : l.length = 7) : ∃ a b c d e f g, l = [a, b, c, d, e, f, g] := by
  obtain ⟨a, r, rfl, h2⟩ := len_s h
  obtain ⟨b, c, d, e, f, g, rfl⟩ := len6 h2
  exact ⟨a, b, c, d, e, f, g, rfl⟩
def rLenTK (K : PySem.W.Frag) : List V → Hp → VK → Prop := fun xs H Q => ∃ (p : Addr) (vs : List V) (n : Nat), xs = [.ref p] ∧ SqT K H p vs ∧ vs.length = n ∧ Q (.int (n : Int)) H
theorem call_lenTK {X : Cx} {K : PySem.W.Frag} (hK : X.K = K := by rfl) : CallR X (.builtin "len") (rLenTK K) := by
  subst hK
  intro pins s σ H xs us Q I r h
  obtain ⟨p, vs, n, rfl, hs, hn, q⟩ := h
  exact call_len_seq pins s σ H _ us Q I r ⟨p, _, rfl, Or.inr hs, by rw [hn]; exact q⟩
theorem exm_mk {K : PySem.W.Frag} {S C : Addr} (h1 : PySem.W.subIn K (.ref C) (.type "BaseException") = some true) (h2 : PySem.W.isClsIn K C = true) (h3 : PySem.W.typeIn K (.ref C) = some (.type "type")) (h4 : PySem.W.subIn K (.ref S) (.ref C) = some true) :
    PySem.W.exmOne K (.ref S) (.ref C) = some true := by
  unfold PySem.W.isClsIn at h2
  unfold PySem.W.exmOne
  unfold PySem.W.kitCls
  simp only [h1, h2, h3, h4, beq_self_eq_true, Bool.and_self, if_true]
theorem kit_mk {K : PySem.W.Frag} {S C : Addr} (h2 : PySem.W.isClsIn K C = true) (h3 : PySem.W.typeIn K (.ref C) = some (.type "type")) (h4 : PySem.W.subIn K (.ref S) (.ref C) = some true) :
    PySem.W.kitOne K (.ref S) (.ref C) = some true := by
  unfold PySem.W.isClsIn at h2
  unfold PySem.W.kitOne
  split
  · rfl
  · unfold PySem.W.kitCls
    simp only [h2, h3, h4, beq_self_eq_true, Bool.and_self, if_true]
/-- isinstance(e, C) of the exception in hand -/
def rIsX (K : PySem.W.Frag) (a : Addr) (cls : Value) (d : Option Addr) : List V → Hp → VK → Prop := fun xs H Q => ∃ (D C : Addr) (b : Bool), cls = .ref D ∧ d = none ∧ ExcC K D ∧ xs = [.ref a, .ref C] ∧ PySem.W.kitOne K (.ref D) (.ref C) = some b ∧ Q (.bl b) H
theorem call_isX {X : Cx} {K : PySem.W.Frag} {a : Addr} {cls : Value} {d : Option Addr} {oe : Obj} {pn : List (Addr × Obj)} (hz : Zc cls d oe) (hf : ∃ vs, oe.data = .fields vs) (hK : X.K = K := by rfl) : CallR (X.suite a ((a, oe) :: pn)) (.builtin "isinstance") (rIsX K a cls d) := by
  subst hK
  intro pins s σ H xs us Q I r h
  obtain ⟨D, C, b, rfl, rfl, c, rfl, e, q⟩ := h
  exact call_isE c hz hf pins s σ H _ us Q I r ⟨_, _, b, rfl, fun u z => z, e, q⟩
/-! ### unpacking a list -/
section
variable {X : Cx} {K : PySem.W.Frag} {pos : Pos}
theorem pg_seqK {es : List Expr} {k : Nat} {t : TGs} {n : Nat} (h : PGs X es t) (hc : X.calm = true := by rfl) (hK : X.K = K := by rfl)
    (hn : (assignEach es X.env).length = n := by rfl) (hst : (assignEach es X.env).findIdx? (·.1) = none := by rfl) : PG X (.Tuple es k pos) (gLst K n t) := hK ▸ pg_lst hc h hn hst
end
theorem SqL.cast {K : PySem.W.Frag} {H : Hp} {a : Addr} {xs ys : List V} (h : SqL K H a xs) (e : xs = ys) : SqL K H a ys := e ▸ h
section
variable {α : Type} [Inhabited α] {f : α → V}
theorem unp2 {xs : List α} (h : xs.length = 2) : xs.map f = [f (itD xs 0), f (itD xs 1)] := by
  obtain ⟨a, b, rfl⟩ := len2 h
  rfl
theorem unp3 {xs : List α} (h : xs.length = 3) : xs.map f = [f (itD xs 0), f (itD xs 1), f (itD xs 2)] := by
  obtain ⟨a, b, c, rfl⟩ := len3 h
  rfl
theorem unp4 {xs : List α} (h : xs.length = 4) : xs.map f = [f (itD xs 0), f (itD xs 1), f (itD xs 2), f (itD xs 3)] := by
  obtain ⟨a, b, c, d, rfl⟩ := len4 h
  rfl
theorem unp6 {xs : List α} (h : xs.length = 6) : xs.map f = [f (itD xs 0), f (itD xs 1), f (itD xs 2), f (itD xs 3), f (itD xs 4), f (itD xs 5)] := by
  obtain ⟨a, b, c, d, e, g, rfl⟩ := len6 h
  rfl
theorem unp8 {xs : List α} (h : xs.length = 8) : xs.map f = [f (itD xs 0), f (itD xs 1), f (itD xs 2), f (itD xs 3), f (itD xs 4), f (itD xs 5), f (itD xs 6), f (itD xs 7)] := by
  obtain ⟨a, r, rfl, h2⟩ := len_s h
  obtain ⟨b, c, d, e, g, i, j, rfl⟩ := len7 h2
  rfl
end
/-! ### classes -/
section
variable {P : Program} {w : World} {K : PySem.W.Frag} {mg : Str → Option Value} {base : Heap}
structure MethX (K : PySem.W.Frag) (C : Addr) (q m : Str) (st : Stmt) (ps : List Str) (pats : List Pat) : Prop where
  ex : ∃ (f : Addr) (fd : FuncData) (dvs : List V) (kws : List (Str × V)), FunD K m q (defArgs st) (defBody st) (defScope st) dvs kws f fd ∧ Meth K C m f ∧ ∀ p ∈ pats, Bnd1 K fd ps p
structure InitX (K : PySem.W.Frag) (mg : Str → Option Value) (C : Addr) (cn q : Str) (st : Stmt) (ps : List Str) (pats : List Pat) : Prop where
  ex : ∃ (f : Addr) (fd : FuncData) (dvs : List V) (kws : List (Str × V)), FunD K "__init__" q (defArgs st) (defBody st) (defScope st) dvs kws f fd ∧ Mk K C f ∧ mg cn = some (.ref C) ∧ ∀ p ∈ pats, Bnd1 K fd ps p
structure PropX (K : PySem.W.Frag) (C : Addr) (q m : Str) (st : Stmt) (ps : List Str) (pats : List Pat) : Prop where
  ex : ∃ (r f : Addr) (fd : FuncData) (dvs : List V) (kws : List (Str × V)), FunD K m q (defArgs st) (defBody st) (defScope st) dvs kws f fd ∧ PropOf K C m r f ∧ Binds K fd ps []
structure MetX (P : Program) (w : World) (K : PySem.W.Frag) (mg : Str → Option Value) (base : Heap) (k : Nat) (C : Addr) (m : Str) (sp : Sp) (pats : List Pat) : Prop where
  ex : ∃ (f : Addr) (fd : FuncData) (ps : List Str), Cls K C ∧ Meth K C m f ∧ FnG P w K mg base (L2.CX P w) k f fd ps sp ∧ ∀ p ∈ pats, Bnd1 K fd ps p
structure PropY (P : Program) (w : World) (K : PySem.W.Frag) (mg : Str → Option Value) (base : Heap) (k : Nat) (C : Addr) (m : Str) (sp : Sp) (pats : List Pat) : Prop where
  ex : ∃ (q f : Addr) (fd : FuncData) (ps : List Str), Cls K C ∧ PropOf K C m q f ∧ FnG P w K mg base (L2.CX P w) k f fd ps sp ∧ Binds K fd ps []
structure MakX (P : Program) (w : World) (K : PySem.W.Frag) (mg : Str → Option Value) (base : Heap) (k : Nat) (cn : Str) (C : Addr) (sp : Sp) (pats : List Pat) : Prop where
  ex : ∃ (f : Addr) (fd : FuncData) (ps : List Str), Mk K C f ∧ FnG P w K mg base (L2.CX P w) k f fd ps sp ∧ mg cn = some (.ref C) ∧ ∀ p ∈ pats, Bnd1 K fd ps p
theorem MethX.ok {C : Addr} {q m : Str} {st : Stmt} {N ps : List Str} {pats : List Pat} {k : Nat} {sp : Sp} (D : MethX K C q m st ps pats) (c : Cls K C) (S : FnScope N ps (defScope st)) (len : ∀ vs H Q E, sp vs H Q E → vs.length = ps.length)
    (hbody : BodyX P w K mg base q st N k sp) : MetX P w K mg base (k + 1) C m sp pats := by
  obtain ⟨f, fd, dvs, kws, F, me, b⟩ := D.ex
  exact ⟨f, fd, ps, c, me, FnG.body F S len (fun cdv A outer s H vs Q E hr h => hbody f cdv A outer s H vs Q E hr h), b⟩
theorem PropX.ok {C : Addr} {q m : Str} {st : Stmt} {N ps : List Str} {pats : List Pat} {k : Nat} {sp : Sp} (D : PropX K C q m st ps pats) (c : Cls K C) (S : FnScope N ps (defScope st)) (len : ∀ vs H Q E, sp vs H Q E → vs.length = ps.length)
    (hbody : BodyX P w K mg base q st N k sp) : PropY P w K mg base (k + 1) C m sp pats := by
  obtain ⟨r, f, fd, dvs, kws, F, me, b⟩ := D.ex
  exact ⟨r, f, fd, ps, c, me, FnG.body F S len (fun cdv A outer s H vs Q E hr h => hbody f cdv A outer s H vs Q E hr h), b⟩
theorem InitX.ok {C : Addr} {cn q : Str} {st : Stmt} {N ps : List Str} {pats : List Pat} {k : Nat} {sp : Sp} (D : InitX K mg C cn q st ps pats) (S : FnScope N ps (defScope st)) (len : ∀ vs H Q E, sp vs H Q E → vs.length = ps.length)
    (hbody : BodyX P w K mg base q st N k sp) : MakX P w K mg base (k + 1) cn C sp pats := by
  obtain ⟨f, fd, dvs, kws, F, me, hm, b⟩ := D.ex
  exact ⟨f, fd, ps, me, FnG.body F S len (fun cdv A outer s H vs Q E hr h => hbody f cdv A outer s H vs Q E hr h), hm, b⟩
end
theorem cW_callN {α β : Type} {m : Rx β} {f : β → Rx α} {K : α → Prop} {E : Nat → Prop} {K2 : β → Prop} {E2 : Nat → Prop} (h : cW ((noEr m).bind f) K E) (ho : ∀ v, cW (f v) K E → K2 v) (_ : True) : cW m K2 E2 := by
  cases m with
  | ok a => exact cW_mk (ho a h)
  | er e => exact cW_bad (α := α) h
  | bad => exact cW_bad (α := α) h
section
variable {X : Cx} {k j n : Nat} {f C : Addr} {fd : FuncData} {ps ks : List Str} {g : List V → List V → List V} {sp : Sp} {x m : Str} {pos p apos : Pos} {e o : Expr} {es : List Expr} {kws : List Keyword} {ta : TE} {t tk : TA} {W : WX}
theorem run_mkX {pins : List (Addr × Obj)} {σ : L2.St} {H : Hp} {s : Shared} {Q : VK} {us ws : List Value} {vs zs : List V} (M : Mk X.K C f) (F : FnG X.prog X.w X.K X.mg X.base (L2.CX X.prog X.w) k f fd ps sp) (hr : RoomG (k + 1) X.A) (hb : Bnd X.K fd ps n ks g) (tkW : Takes X W)
    (I : Inv X pins σ H s) (r : Vals vs us) (rz : Vals zs ws) (l1 : vs.length + 1 = n) (l2 : zs.length = ks.length)
    (h : ∀ x dx, H x = none → H dx = none → dx ≠ x → sp (g (.ref x :: vs) zs) (upd (upd H dx (.own x)) x (.ins C dx [])) (fun v H2 => v = .non ∧ Q (.ref x) H2) (WE W σ)) :
    wpAny (model X.prog X.w) X.A (call (.ref C) us (ks.zip ws)) (EP X pins σ Q) X.xe s := by
  have hq := h (s.heap.objs.size + 1) s.heap.objs.size (I.hok.fresh (Nat.le_succ _)) (I.hok.fresh (Nat.le_refl _)) (Nat.ne_of_lt (Nat.lt_succ_self _))
  have I2 := Inv.made (C := C) I
  have r1 : Vals (V.ref (s.heap.objs.size + 1) :: vs) (Value.ref (s.heap.objs.size + 1) :: us) := .cons rfl r
  obtain ⟨vv, b, r2⟩ := hb.to _ (Value.ref (s.heap.objs.size + 1) :: us) ws (V.ref (s.heap.objs.size + 1) :: vs) zs I2.kIn (by rw [List.length_cons, l1]) l2 r1 rz
  refine wpAny_call (make_map (f := f) I.kIn M.makes M.init (beq_iff_eq.mp M.fn) (codeAny_mono (F.run _ X.stack _ _ ⟨Value.ref (s.heap.objs.size + 1) :: us, ks.zip ws⟩ vv _ _ (WE W σ) (hr.made C us (ks.zip ws))
    (I2.env0.make C us (ks.zip ws)) b r2 hq) fun r s' hq' => ?_))
  cases r with
  | error e => exact passAt tkW σ pins _ _ e s' I2 hq'
  | ok fl =>
    cases fl with
    | ret u =>
      obtain ⟨v, H', I3, rv, ev, q3⟩ := I2.after hq'
      subst ev
      exact ⟨rv, ⟨V.ref (s.heap.objs.size + 1), H', I3, rfl, q3⟩⟩
    | next => exact False.elim hq'
    | brk => exact False.elim hq'
    | cont => exact False.elim hq'
/-- C(e, .., k = v, ..) -/
def tMakeX (C : Addr) (n m : Nat) (sp : Sp) (g : List V → List V → List V) (W : WX) (t tk : TA) : TE := fun σ H Q => t σ H fun vs H1 => tk σ H1 fun zs H2 => vs.length + 1 = n ∧ zs.length = m ∧ ∀ x dx, H2 x = none → H2 dx = none → dx ≠ x →
  sp (g (.ref x :: vs) zs) (upd (upd H2 dx (.own x)) x (.ins C dx [])) (fun v H3 => v = .non ∧ Q (.ref x) H3) (WE W σ)
theorem vx_makeX {pats : List Pat} (c : MakX X.prog X.w X.K X.mg X.base k x C sp pats) (pt : Pat) (hpt : pt ∈ pats) (hr : RoomG j X.A) (hk : k + 1 ≤ j) (tkW : Takes X W) (hg : Gl X x) (ha : PA X (e :: es) t) (hkw : PK X kws tk)
    (hall : (backToKw pos (keywordEach kws X.env)).all (·.1.isSome) = true := by rfl) (hks : (backToKw pos (keywordEach kws X.env)).filterMap (·.1) = pt.2.1 := by rfl) (hdb : (x == ("__debug__" : Str)) = false := by decide)
    (he : starEach (e :: es) X.env = (false, eval e X.env) :: starEach es X.env := by rfl) (hpl : ((backTo pos (starEach (e :: es) X.env)).any (·.1) || (backToKw pos (keywordEach kws X.env)).any (·.1.isNone)) = false := by rfl) :
    PE X (.Call (.Name x p) (e :: es) kws pos) (tMakeX C pt.1 pt.2.1.length sp pt.2.2 W t tk) := by
  obtain ⟨f, fd, ps, M, F, hm, b⟩ := c.ex
  refine ⟨fun pins s σ H Q I h => ?_⟩
  refine wpAny_Call_Name_kw (ld_glob I hg hm ?_ hdb)
  refine PySem.W.callWith_KW (h₀ := X.base) I.ok.mod.kin M.kp hall (thn (ha.run pos pins s σ H _ I h) fun us s1 ⟨vs, H1, I1, r, q⟩ => ?_) hpl he
  refine thn (hkw.run pos pins s1 σ H1 _ I1 q) fun ws s2 ⟨zs, H2, I2, rz, l1, l2, q2⟩ => ⟨I2.kIn, ?_⟩
  rw [hks]
  exact run_mkX M F (hr.low hk) (b pt hpt) tkW I2 r rz l1 l2 q2
theorem vx_makeX0 {pats : List Pat} (c : MakX X.prog X.w X.K X.mg X.base k x C sp pats) (pt : Pat) (hpt : pt ∈ pats) (hr : RoomG j X.A) (hk : k + 1 ≤ j) (tkW : Takes X W) (hg : Gl X x) (hks : pt.2.1 = [] := by rfl)
    (hdb : (x == ("__debug__" : Str)) = false := by decide) : PE X (.Call (.Name x p) [] [] pos) (tMakeX C pt.1 pt.2.1.length sp pt.2.2 W tNil tNil) := by
  obtain ⟨f, fd, ps, M, F, hm, b⟩ := c.ex
  refine ⟨fun pins s σ H Q I h => ?_⟩
  refine wpAny_Call_Name_kw (ld_glob I hg hm ?_ hdb)
  obtain ⟨l1, l2, q2⟩ := h
  have hz := run_mkX (us := []) (ws := []) M F (hr.low hk) (b pt hpt) tkW I .nil .nil l1 l2 q2
  rw [hks] at hz
  exact PySem.W.callWith_K0 I.kIn M.kp hz
/-- o.m(e, .., k = v, ..) -/
def tMethX (C : Addr) (m : Str) (n mm : Nat) (sp : Sp) (g : List V → List V → List V) (W : WX) (ta : TE) (t tk : TA) : TE := fun σ H Q => ta σ H fun x H1 => ∃ a dx fs, x = .ref a ∧ H1 a = some (.ins C dx fs) ∧ fs.lookup m = none ∧
  t σ H1 fun vs H2 => tk σ H2 fun zs H3 => (x :: vs).length = n ∧ zs.length = mm ∧ sp (g (x :: vs) zs) H3 Q (WE W σ)
theorem vx_methX {pats : List Pat} {pl : Sem Bool} (c : MetX X.prog X.w X.K X.mg X.base k C m sp pats) (pt : Pat) (hpt : pt ∈ pats) (hr : RoomG j X.A) (hk : k ≤ j) (tkW : Takes X W) (he : PE X o ta) (ha : PA X (e :: es) t) (hkw : PK X kws tk)
    (hall : (backToKw pos (keywordEach kws X.env)).all (·.1.isSome) = true := by rfl) (hks : (backToKw pos (keywordEach kws X.env)).filterMap (·.1) = pt.2.1 := by rfl)
    (hst : starEach (e :: es) X.env = (false, eval e X.env) :: starEach es X.env := by rfl) (hpl : ((backTo pos (starEach (e :: es) X.env)).any (·.1) || (backToKw pos (keywordEach kws X.env)).any (·.1.isNone)) = false := by rfl)
    (ht : eval (.Call (.Attribute o m apos) (e :: es) kws pos) X.env = (do
      let ov ← eval o X.env
      standAt apos.atName
      let (f, first) ← holding [ov] (getMethod ov m pl)
      callWith pos f first (backTo pos (starEach (e :: es) X.env)) (backToKw pos (keywordEach kws X.env))) := by rfl) :
    PE X (.Call (.Attribute o m apos) (e :: es) kws pos) (tMethX C m pt.1 pt.2.1.length sp pt.2.2 W ta t tk) := by
  obtain ⟨f, fd, ps, hc, hm, F, b⟩ := c.ex
  refine ⟨fun pins s σ H Q I h => ?_⟩
  refine PySem.W.methodCall_KW (pl := pl) (thn (he.run pins s σ H _ I h) fun u s1 ⟨x, H1, I1, rx, a, dx, fs, ex, ea, l, q⟩ => ?_) ht
  subst ex
  obtain rfl : u = Value.ref a := rx
  refine getmeth_ok I1 ea hc hm l ?_
  refine PySem.W.callWith_KW (first := [.ref a]) (h₀ := X.base) I.ok.mod.kin hm.kp hall (thn (ha.run pos pins s1 σ H1 _ I1 q) fun us s2 ⟨vs, H2, I2, r, q2⟩ => ?_) hpl hst
  refine thn (hkw.run pos pins s2 σ H2 _ I2 q2) fun ws s3 ⟨zs, H3, I3, rz, l1, l2, q3⟩ => ⟨I3.kIn, ?_⟩
  rw [hks]
  exact run_X (us := .ref a :: us) (vs := .ref a :: vs) F (hr.low hk) (b pt hpt) tkW I3 (.cons rfl r) rz l1 l2 q3
theorem vx_methX0 {pats : List Pat} {pl : Sem Bool} (c : MetX X.prog X.w X.K X.mg X.base k C m sp pats) (pt : Pat) (hpt : pt ∈ pats) (hr : RoomG j X.A) (hk : k ≤ j) (tkW : Takes X W) (he : PE X o ta) (hks : pt.2.1 = [] := by rfl)
    (ht : eval (.Call (.Attribute o m apos) [] [] pos) X.env = (do
      let ov ← eval o X.env
      standAt apos.atName
      let (f, first) ← holding [ov] (getMethod ov m pl)
      callWith pos f first (backTo pos (starEach [] X.env)) (backToKw pos (keywordEach [] X.env))) := by rfl) :
    PE X (.Call (.Attribute o m apos) [] [] pos) (tMethX C m pt.1 pt.2.1.length sp pt.2.2 W ta tNil tNil) := by
  obtain ⟨f, fd, ps, hc, hm, F, b⟩ := c.ex
  refine ⟨fun pins s σ H Q I h => ?_⟩
  refine PySem.W.methodCall_KW (pl := pl) (thn (he.run pins s σ H _ I h) fun u s1 ⟨x, H1, I1, rx, a, dx, fs, ex, ea, l, q⟩ => ?_) ht
  subst ex
  obtain rfl : u = Value.ref a := rx
  refine getmeth_ok I1 ea hc hm l ?_
  obtain ⟨l1, l2, q3⟩ := q
  have hz := run_X (us := [.ref a]) (vs := [.ref a]) (ws := []) F (hr.low hk) (b pt hpt) tkW I1 (.cons rfl .nil) .nil l1 l2 q3
  rw [hks] at hz
  exact PySem.W.callWith_K0 (first := [.ref a]) I1.kIn hm.kp hz
theorem vx_propX {pats : List Pat} (c : PropY X.prog X.w X.K X.mg X.base k C m sp pats) (hr : RoomG j X.A) (hk : k + 1 ≤ j) (he : PE X o ta) (hab : attributeBase o m X.env (eval o X.env) = eval o X.env := by rfl) : PE X (.Attribute o m pos) (tProp C sp [] E0 ta) := by
  obtain ⟨q, f, fd, ps, cls, prop, F, bind⟩ := c.ex
  constructor
  intro pins s σ H Q I h
  refine attr_of hab (thn (he.run pins s σ H _ I h) ?_)
  rintro u s1 ⟨x, H1, I1, rx, a, dx, fs, rfl, ea, prom⟩
  cases rx
  obtain ⟨mA, O, _⟩ := ins_get I1.hok ea
  obtain ⟨od, J, _⟩ := O.look
  obtain ⟨rest, rec_⟩ := prop.rec_
  have short : [Value.ref a].length = ps.length := (F.len _ _ _ _ prom).symm ▸ rfl
  have isCls : (PySem.W.clsIn X.K C).isSome = true := by
    obtain ⟨cd, e, _⟩ := PySem.W.any_some cls.hd
    rw [e]
    rfl
  refine PySem.W.get_bind I1.kIn J (PySem.W.plainGet_of (cls.get m)).1 (PySem.W.findObj_data isCls prop.at_ prop.get prop.tak) (PySem.W.plainGet_of (cls.get m)).2 (wpAny_call (PySem.W.prop_get (s := { s1 with toks := s1.toks + 1 }) I1.kIn rec_ ?_))
  have I2 := I1.tok (s1.toks + 1)
  refine codeAny_mono (F.run X.A.in1 X.stack _ H1 ⟨[.ref a], []⟩ [.ref a] [.ref a] Q E0 (hr.low hk).one I2.env0.in1 (by simpa using bind _ [.ref a] I2.kIn (by simpa using short)) (.cons rfl .nil) prom) ?_
  intro r s2 out
  cases r with
  | error er => exact (passL (X := X.nox) pins σ H1 _ er s2 (I2.wish _) out).elim
  | ok flow =>
    cases flow with
    | ret v =>
      obtain ⟨y, H2, I3, ry, qy⟩ := I2.after out
      have given := PySem.W.handedOut_of (handed_of ry)
      show wpAny _ _ (handedOut v) _ _ s2
      rw [given]
      exact wpAny_pure ⟨y, H2, I3, ry, qy⟩
    | next => exact out.elim
    | brk => exact out.elim
    | cont => exact out.elim
end
theorem Sep.news {M : List Addr} {H0 G0 G H H' : Hp} {O : List Addr} (S : Sep M H0 G0 G H O) (e : Same H H') (L : List Addr) (hL : ∀ a ∈ L, H a = none ∧ H' a ≠ none ∧ H0 a = none) : Sep M H0 G0 G H' (L ++ O) := by
  have S2 := S.same e
  refine ⟨S2.base, S2.pm, S2.sG, S2.g0, S2.gn, fun a ha => ?_⟩
  rcases List.mem_append.mp ha with h | h
  · obtain ⟨h1, h2, h3⟩ := hL a h
    exact ⟨S.gfree h1, h2, .inr h3⟩
  · exact S2.ow a h
theorem vv_chain {r r' : R2} {ta tb tc : TE} {σ : L2.St} {H : Hp} {x y z : V} {a b : Bool} (ha : Val ta σ H x) (hb : Val tb σ H y) (hc : Val tc σ H z) (h1 : ∀ Q : VK, Q (.bl a) H → r x y H Q) (h2 : ∀ Q : VK, Q (.bl b) H → r' y z H Q) :
    Val (tChain r r' ta tb tc) σ H (.bl (a && b)) := fun Q q => ha _ (hb _ (h1 _ ⟨a, rfl, by
  cases a with
  | true =>
    rw [if_pos rfl]
    exact hc _ (h2 _ q)
  | false =>
    rw [if_neg Bool.false_ne_true]
    exact q⟩))
/-! ### constants that are tuples, lists backwards, zip -/
theorem inV_ints (x : Int) : ∀ xs : List Int, inV (V.int x) (xs.map V.int) = decide (x ∈ xs)
  | [] => by simp [inV]
  | y :: r => by
    have h := inV_ints x r
    unfold inV at h ⊢
    rw [List.map_cons, List.any_cons, h]
    by_cases c : x = y
    · subst c
      simp [eqV]
    · simp [eqV, c, Ne.symm c]
theorem flat_ints : ∀ xs : List Int, (xs.map V.int).all flatV = true
  | [] => rfl
  | _ :: r => flat_ints r
def rInI (K : PySem.W.Frag) : R2 := fun x y H Q => ∃ (i : Int) (p : Addr) (xs : List Int), x = .int i ∧ y = .ref p ∧ (SqL K H p (xs.map V.int) ∨ SqT K H p (xs.map V.int)) ∧ Q (.bl (decide (i ∈ xs))) H
def rNotInI (K : PySem.W.Frag) : R2 := fun x y H Q => ∃ (i : Int) (p : Addr) (xs : List Int), x = .int i ∧ y = .ref p ∧ (SqL K H p (xs.map V.int) ∨ SqT K H p (xs.map V.int)) ∧ Q (.bl (!decide (i ∈ xs))) H
theorem op_inI {X : Cx} {K : PySem.W.Frag} (hK : X.K = K := by rfl) : OpR X (compareOp .In) (rInI K) := by
  subst hK
  intro pins s σ H x y v u Q I rx ry h
  obtain ⟨i, p, xs, rfl, rfl, hs, q⟩ := h
  refine op_in_seq pins s σ H _ _ v u Q I rx ry ⟨p, _, rfl, hs, rfl, flat_ints xs, ?_⟩
  rw [if_neg Bool.false_ne_true, inV_ints]
  exact q
theorem op_notInI {X : Cx} {K : PySem.W.Frag} (hK : X.K = K := by rfl) : OpR X (compareOp .NotIn) (rNotInI K) := by
  subst hK
  intro pins s σ H x y v u Q I rx ry h
  obtain ⟨i, p, xs, rfl, rfl, hs, q⟩ := h
  refine op_notIn_seq pins s σ H _ _ v u Q I rx ry ⟨p, _, rfl, hs, rfl, flat_ints xs, ?_⟩
  rw [if_pos rfl, inV_ints]
  exact q
theorem pe_revLK {X : Cx} {K : PySem.W.Frag} {e : Expr} {te : TE} {k : Nat} {p1 p2 p3 pos : Pos} (he : PE X e te) (hK : X.K = K := by rfl) : PE X (.Subscript e (.Slice none none (some (.UnaryOp .USub (.Constant (.int 1) k p1) p2)) p3) pos) (tRevL K te) := hK ▸ pe_revL he
theorem rev_map {α : Type} {f : α → V} {xs : List α} {H : Hp} {p : Addr} (h : H p = some (.lst (xs.map f).reverse)) : H p = some (.lst (xs.reverse.map f)) := by
  rw [List.map_reverse]
  exact h
theorem RpAll.rev {G : Hp} : ∀ {vs : List V} {ds : List PyData}, RpAll G vs ds → RpAll G vs.reverse ds.reverse
  | _, _, .nil => .nil
  | _, _, .cons h t => by
    rw [List.reverse_cons, List.reverse_cons]
    exact (RpAll.rev t).append (.one h)
theorem rev_all {α : Type} {f : α → PyData} {xs : List α} {G : Hp} {vs : List V} (a : RpAll G vs (xs.map f)) : RpAll G vs.reverse (xs.reverse.map f) := by
  rw [List.map_reverse]
  exact a.rev
theorem pi_zipK {X : Cx} {K : PySem.W.Frag} {e e2 : Expr} {ta : TA} {p pos tpos : Pos} {elts : List Expr} {kk : Nat} (hg : Gl X "zip") (hm : X.mg "zip" = none) (ha : PA X [e, e2] ta) (hK : X.K = K := by rfl)
    (hs : starEach [e, e2] X.env = (false, eval e X.env) :: starEach [e2] X.env := by rfl) (hpl : (backTo pos (starEach [e2] X.env)).any (·.1) = false := by rfl) :
    PI X (.Tuple elts kk tpos) (.Call (.Name "zip" p) [e, e2] [] pos) (RZ.iZipA K ta) := hK ▸ RZ.pi_zipA hg hm ha hs hpl
/-- a comprehension over zip of two lists of one length -/
theorem lc_zipL {K : PySem.W.Frag} {a b : Addr} {xs ys : List V} {g : TG} {tt : TT} {te : TE} {vs : List Nat} {σ : L2.St} {H1 : Hp} {D : Addr} {Qd : Hp → Prop} (hl : xs.length = ys.length) (Pv : Nat → Hp → Prop) (h0 : Pv 0 (upd H1 D (.lst []))) (hq : ∀ i H, i ≤ xs.length → Pv i H → SqL K H a xs ∧ SqL K H b ys)
    (hs : ∀ (i : Nat) (x y : V) (T : Addr) (H : Hp), xs[i]? = some x → ys[i]? = some y → H T = none → Pv i H → g (.ref T) (wipe σ vs) (upd H T (.tup [x, y])) fun σ2 H2 => wipe σ2 vs = wipe σ vs ∧ tt σ2 H2 fun b H3 =>
      if b = true then te σ2 H3 fun y H4 => ∃ acc, H4 D = some (.lst acc) ∧ acc.length < sizeLine ∧ Pv (i + 1) (upd H4 D (.lst (acc ++ [y]))) else Pv (i + 1) H3) (hd : ∀ H, Pv xs.length H → Qd H) :
    ∃ W : Nat → Nat → Hp → Prop, (∃ m, W 0 m (upd H1 D (.lst []))) ∧ ∀ i m H, W i m H →
      ((Itz K a b).stop i H ∧ Qd H) ∨ ((Itz K a b).go i H ∧ ∃ Nx : Hp → Prop, (∀ H', Nx H' → ∃ m', m' < m ∧ W (i + 1) m' H') ∧ ∀ x H', (Itz K a b).yld i H x H' → g x (wipe σ vs) H' fun σ2 H2 => wipe σ2 vs = wipe σ vs ∧ tt σ2 H2 fun b H3 =>
        if b = true then te σ2 H3 fun y H4 => ∃ acc, H4 D = some (.lst acc) ∧ acc.length < sizeLine ∧ Nx (upd H4 D (.lst (acc ++ [y]))) else Nx H3) := by
  refine ⟨fun i m H => m = xs.length - i ∧ i ≤ xs.length ∧ Pv i H, ⟨xs.length, by simp, Nat.zero_le _, h0⟩, ?_⟩
  rintro i m H ⟨rfl, hi, p⟩
  obtain ⟨qx, qy⟩ := hq i H hi p
  by_cases hlt : i < xs.length
  · have hlt2 : i < ys.length := by omega
    refine .inr ⟨⟨xs, ys, xs[i], ys[i], qx, qy, List.getElem?_eq_getElem hlt, List.getElem?_eq_getElem hlt2⟩, Pv (i + 1), fun H' p' => ⟨xs.length - (i + 1), by omega, rfl, hlt, p'⟩, fun v H' y => ?_⟩
    obtain ⟨T, x', y', rfl, hT, rfl, f1, f2⟩ := y
    exact hs i x' y' T H (f1 xs qx) (f2 ys qy) hT p
  · have e : i = xs.length := by omega
    subst e
    exact .inl ⟨⟨xs, ys, qx, qy, Or.inl (Nat.le_refl _)⟩, hd H p⟩
theorem zip_get {α β : Type} {xs : List α} {ys : List β} {i : Nat} {x : α} {y : β} (h1 : xs[i]? = some x) (h2 : ys[i]? = some y) : (xs.zip ys)[i]? = some (x, y) := by
  rw [List.getElem?_zip_eq_some]
  exact ⟨h1, h2⟩
theorem zip_len {α β : Type} {xs : List α} {ys : List β} {n : Nat} (h : xs.length = ys.length) (e : n = xs.length) : n = (xs.zip ys).length := by
  rw [List.length_zip, ← h, Nat.min_self]
  exact e
theorem zlen {α β : Type} {vs ws : List V} {xs : List α} {ys : List β} (a : vs.length = xs.length) (b : ws.length = ys.length) (h : xs.length = ys.length) : vs.length = ws.length := by rw [a, b, h]
section
variable {t : TT} {ta tb : TE} {σ : L2.St} {H : Hp}
theorem vv_ifP {p : Prop} [Decidable p] {a b : Int} (ht : Ans t σ H (decide p)) (hx : p → Val ta σ H (.int a)) (hy : ¬ p → Val tb σ H (.int b)) : Val (tIf t ta tb) σ H (.int (if p then a else b)) := by
  by_cases h : p
  · have := vv_if (p := p) (a := a) (b := a) ht (hx h) (tb := ta) (hx h)
    intro Q q
    refine ht _ ?_
    rw [decide_eq_true h, if_pos rfl]
    rw [if_pos h] at q
    exact hx h _ q
  · intro Q q
    refine ht _ ?_
    rw [decide_eq_false h, if_neg Bool.false_ne_true]
    rw [if_neg h] at q
    exact hy h _ q
theorem vv_ifQ {c : Bool} {a b : Int} (ht : Ans t σ H c) (hx : c = true → Val ta σ H (.int a)) (hy : c = false → Val tb σ H (.int b)) : Val (tIf t ta tb) σ H (.int (if c = true then a else b)) := by
  intro Q q
  refine ht _ ?_
  cases c with
  | true =>
    rw [if_pos rfl]
    rw [if_pos rfl] at q
    exact hx rfl _ q
  | false =>
    rw [if_neg Bool.false_ne_true]
    rw [if_neg Bool.false_ne_true] at q
    exact hy rfl _ q
end
theorem kit_mk0 {K : PySem.W.Frag} {S C : Addr} (h1 : (Value.ref S == Value.ref C) = false) (h2 : PySem.W.isClsIn K C = true) (h3 : PySem.W.typeIn K (.ref C) = some (.type "type")) (h4 : PySem.W.subIn K (.ref S) (.ref C) = some false) :
    PySem.W.kitOne K (.ref S) (.ref C) = some false := by
  unfold PySem.W.isClsIn at h2
  unfold PySem.W.kitOne
  rw [if_neg (by rw [h1]; exact Bool.false_ne_true)]
  unfold PySem.W.kitCls
  simp only [h2, h3, h4, beq_self_eq_true, Bool.and_self, if_true]
theorem vv_call2 {ta tb : TE} {σ : L2.St} {H : Hp} {x y z : V} {r : List V → Hp → VK → Prop} (ha : Val ta σ H x) (hb : Val tb σ H y) (hr : ∀ Q : VK, Q z H → r [x, y] H Q) : Val (tCB r (tCons ta (tCons tb tNil))) σ H z := fun Q q => ha _ (hb _ (hr Q q))
/-! ### lists of data that the caller owns; values that are a truth value or a number -/
theorem Sep.stepnew {M : List Addr} {H0 G0 G H H' : Hp} {O : List Addr} {p : Addr} {o : HO} (S : Sep M H0 G0 G H O) {G' : Hp} (e : Same H H') (eG : Same G G') (sG : Same G' H') (hn : ∀ b, H b ≠ none → G b = none → G' b = none) (_n : H p = none) (h : H' p = some o) (g : G' p = none) (hm : H0 p = none) : Sep M H0 G0 G' H' (p :: O) := by
  have S2 := S.step e eG sG hn
  refine ⟨S2.base, S2.pm, S2.sG, S2.g0, S2.gn, fun a ha => ?_⟩
  rcases List.mem_cons.mp ha with rfl | ha
  · exact ⟨g, (fun z => by rw [z] at h; cases h), .inr hm⟩
  · exact S2.ow a ha
inductive Bi where
  | b (x : Bool)
  | n (i : Int)
deriving DecidableEq
def biV : Bi → V
  | .b x => .bl x
  | .n i => .int i
def Bi.el {α : Type} (v : Bi) (f : Bool → α) (g : Int → α) : α :=
  match v with
  | .b x => f x
  | .n i => g i
theorem cW_elb {α : Type} {x : Bool} {f : Bool → Rx α} {g : Int → Rx α} {K : α → Prop} {E : Nat → Prop} (h : cW (Bi.el (.b x) f g) K E) : cW (f x) K E := h
theorem cW_eln {α : Type} {x : Int} {f : Bool → Rx α} {g : Int → Rx α} {K : α → Prop} {E : Nat → Prop} (h : cW (Bi.el (.n x) f g) K E) : cW (g x) K E := h
theorem rp_tup4 {α β γ δ : Type} {f : α → PyData} {g : β → PyData} {h : γ → PyData} {i : δ → PyData} {H : Hp} {v : V} {x : α × β × γ × δ} (r : Rp H v (encT4 f g h i x)) : ∃ a v1 v2 v3 v4, v = .ref a ∧ H a = some (.tup [v1, v2, v3, v4]) ∧ Rp H v1 (f x.1) ∧ Rp H v2 (g x.2.1) ∧ Rp H v3 (h x.2.2.1) ∧ Rp H v4 (i x.2.2.2) := by
  unfold encT4 at r
  cases r with
  | tup h1 h2 =>
    cases h2 with
    | cons a b =>
      cases b with
      | cons b c =>
        cases c with
        | cons c d =>
          cases d with
          | cons d e =>
            cases e
            exact ⟨_, _, _, _, _, rfl, h1, a, b, c, d⟩
theorem rp_mk4 {α β γ δ : Type} {f : α → PyData} {g : β → PyData} {h : γ → PyData} {i : δ → PyData} {H : Hp} {a : Addr} {v1 v2 v3 v4 : V} {x : α} {y : β} {z : γ} {w : δ} (h1 : H a = some (.tup [v1, v2, v3, v4])) (r1 : Rp H v1 (f x)) (r2 : Rp H v2 (g y)) (r3 : Rp H v3 (h z)) (r4 : Rp H v4 (i w)) : Rp H (.ref a) (encT4 f g h i (x, y, z, w)) := .tup h1 (.cons r1 (.cons r2 (.cons r3 (.cons r4 .nil))))
theorem Sep.b0M {M : List Addr} {H0 G0 G H : Hp} {O : List Addr} (S : Sep M H0 G0 G H O) (h : ∀ a ∈ M, H a = H0 a) : Same H0 H := fun b o e => by
  by_cases z : b ∈ M
  · rw [h b z]
    exact e
  · exact S.base b o e z
section
variable {X : Cx} {k j n : Nat} {f C : Addr} {fd : FuncData} {ps ks : List Str} {g : List V → List V → List V} {sp : Sp} {x m : Str} {pos p apos : Pos} {e o : Expr} {es : List Expr} {kws : List Keyword} {ta : TE} {t tk : TA} {W : WX}
/-- keywords alone -/
theorem vx_makeXK {pats : List Pat} (c : MakX X.prog X.w X.K X.mg X.base k x C sp pats) (pt : Pat) (hpt : pt ∈ pats) (hr : RoomG j X.A) (hk : k + 1 ≤ j) (tkW : Takes X W) (hg : Gl X x) (hkw : PK X kws tk)
    (hall : (backToKw pos (keywordEach kws X.env)).all (·.1.isSome) = true := by rfl) (hks : (backToKw pos (keywordEach kws X.env)).filterMap (·.1) = pt.2.1 := by rfl) (hdb : (x == ("__debug__" : Str)) = false := by decide)
    (hpl : ((backTo pos (starEach [] X.env)).any (·.1) || (backToKw pos (keywordEach kws X.env)).any (·.1.isNone)) = false := by rfl) :
    PE X (.Call (.Name x p) [] kws pos) (tMakeX C pt.1 pt.2.1.length sp pt.2.2 W tNil tk) := by
  obtain ⟨f, fd, ps, M, F, hm, b⟩ := c.ex
  refine ⟨fun pins s σ H Q I h => ?_⟩
  refine wpAny_Call_Name_kw (ld_glob I hg hm ?_ hdb)
  refine PySem.W.callWith_KW0 (h₀ := X.base) I.ok.mod.kin M.kp hall ?_ hpl
  refine thn (hkw.run pos pins s σ H _ I h) fun ws s2 ⟨zs, H2, I2, rz, l1, l2, q2⟩ => ⟨I2.kIn, ?_⟩
  rw [hks]
  exact run_mkX (us := []) (vs := []) M F (hr.low hk) (b pt hpt) tkW I2 .nil rz l1 l2 q2
theorem vx_callXK {pats : List Pat} (c : CalX X.prog X.w X.K X.mg X.base k x sp pats) (pt : Pat) (hpt : pt ∈ pats) (hr : RoomG j X.A) (hk : k ≤ j) (tkW : Takes X W) (hg : Gl X x) (hkw : PK X kws tk)
    (hall : (backToKw pos (keywordEach kws X.env)).all (·.1.isSome) = true := by rfl) (hks : (backToKw pos (keywordEach kws X.env)).filterMap (·.1) = pt.2.1 := by rfl) (hdb : (x == ("__debug__" : Str)) = false := by decide)
    (hpl : ((backTo pos (starEach [] X.env)).any (·.1) || (backToKw pos (keywordEach kws X.env)).any (·.1.isNone)) = false := by rfl) :
    PE X (.Call (.Name x p) [] kws pos) (tCallX pt.1 pt.2.1.length sp pt.2.2 W tNil tk) := by
  obtain ⟨f, fd, ps, F, hm, kp, b⟩ := c.ex
  refine ⟨fun pins s σ H Q I h => ?_⟩
  refine wpAny_Call_Name_kw (ld_glob I hg hm ?_ hdb)
  refine PySem.W.callWith_KW0 (h₀ := X.base) I.ok.mod.kin kp hall ?_ hpl
  refine thn (hkw.run pos pins s σ H _ I h) fun ws s2 ⟨zs, H2, I2, rz, l1, l2, q2⟩ => ⟨I2.kIn, ?_⟩
  rw [hks]
  exact run_X (us := []) (vs := []) F (hr.low hk) (b pt hpt) tkW I2 .nil rz l1 l2 q2
theorem vx_methXK {pats : List Pat} {pl : Sem Bool} (c : MetX X.prog X.w X.K X.mg X.base k C m sp pats) (pt : Pat) (hpt : pt ∈ pats) (hr : RoomG j X.A) (hk : k ≤ j) (tkW : Takes X W) (he : PE X o ta) (hkw : PK X kws tk)
    (hall : (backToKw pos (keywordEach kws X.env)).all (·.1.isSome) = true := by rfl) (hks : (backToKw pos (keywordEach kws X.env)).filterMap (·.1) = pt.2.1 := by rfl)
    (hpl : ((backTo pos (starEach [] X.env)).any (·.1) || (backToKw pos (keywordEach kws X.env)).any (·.1.isNone)) = false := by rfl)
    (ht : eval (.Call (.Attribute o m apos) [] kws pos) X.env = (do
      let ov ← eval o X.env
      standAt apos.atName
      let (f, first) ← holding [ov] (getMethod ov m pl)
      callWith pos f first (backTo pos (starEach [] X.env)) (backToKw pos (keywordEach kws X.env))) := by rfl) :
    PE X (.Call (.Attribute o m apos) [] kws pos) (tMethX C m pt.1 pt.2.1.length sp pt.2.2 W ta tNil tk) := by
  obtain ⟨f, fd, ps, hc, hm, F, b⟩ := c.ex
  refine ⟨fun pins s σ H Q I h => ?_⟩
  refine PySem.W.methodCall_KW (pl := pl) (thn (he.run pins s σ H _ I h) fun u s1 ⟨x, H1, I1, rx, a, dx, fs, ex, ea, l, q⟩ => ?_) ht
  subst ex
  obtain rfl : u = Value.ref a := rx
  refine getmeth_ok I1 ea hc hm l ?_
  refine PySem.W.callWith_KW0 (first := [.ref a]) (h₀ := X.base) I.ok.mod.kin hm.kp hall ?_ hpl
  refine thn (hkw.run pos pins s1 σ H1 _ I1 q) fun ws s3 ⟨zs, H3, I3, rz, l1, l2, q3⟩ => ⟨I3.kIn, ?_⟩
  rw [hks]
  exact run_X (us := [.ref a]) (vs := [.ref a]) F (hr.low hk) (b pt hpt) tkW I3 (.cons rfl .nil) rz l1 l2 q3
end
end Vx
/-! # lists within lists that are owned as a whole -/
namespace Vx
open PySem PySem.Spec PyProof.Rows L2
inductive Kd where
  | lst
  | tup
  | ins (C dx : Addr) (ns : List Str)
def Kd.ho : Kd → List V → HO
  | .lst, vs => .lst vs
  | .tup, vs => .tup vs
  | .ins C dx ns, vs => .ins C dx (ns.zip vs)
/-- what stands in the heap as a tree: values as they are, data that stay, nodes of its own -/
inductive Dt where
  | val (v : V)
  | frz (d : PyData)
  | nod (k : Kd) (xs : List Dt)
mutual
inductive Ow (G H : Hp) : List Addr → V → Dt → Prop
  | val (v : V) : Ow G H [] v (.val v)
  | frz {v : V} {d : PyData} : Rp G v d → Ow G H [] v (.frz d)
  | nod {a : Addr} {k : Kd} {vs : List V} {ds : List Dt} {L : List Addr} : H a = some (k.ho vs) → OwAll G H L vs ds → a ∉ L → Ow G H (a :: L) (.ref a) (.nod k ds)
inductive OwAll (G H : Hp) : List Addr → List V → List Dt → Prop
  | nil : OwAll G H [] [] []
  | cons {L1 L2 : List Addr} {v : V} {vs : List V} {d : Dt} {ds : List Dt} : Ow G H L1 v d → OwAll G H L2 vs ds → (∀ b ∈ L1, b ∉ L2) → OwAll G H (L1 ++ L2) (v :: vs) (d :: ds)
end
def Keeps (L : List Addr) (H H' : Hp) : Prop := ∀ b ∈ L, ∀ o, H b = some o → H' b = some o
mutual
theorem Ow.mono {G G' H H' : Hp} (e : Same G G') : ∀ {L : List Addr} {v : V} {d : Dt}, Keeps L H H' → Ow G H L v d → Ow G' H' L v d
  | _, _, _, _, .val v => .val v
  | _, _, _, _, .frz r => .frz (r.mono e)
  | _, _, _, k, .nod h r n => .nod (k _ List.mem_cons_self _ h) (OwAll.mono e (fun b hb => k b (List.mem_cons_of_mem _ hb)) r) n
theorem OwAll.mono {G G' H H' : Hp} (e : Same G G') : ∀ {L : List Addr} {vs : List V} {ds : List Dt}, Keeps L H H' → OwAll G H L vs ds → OwAll G' H' L vs ds
  | _, _, _, _, .nil => .nil
  | _, _, _, k, .cons a r d => .cons (Ow.mono e (fun b hb => k b (List.mem_append_left _ hb)) a) (OwAll.mono e (fun b hb => k b (List.mem_append_right _ hb)) r) d
end
mutual
theorem Ow.there {G H : Hp} : ∀ {L : List Addr} {v : V} {d : Dt}, Ow G H L v d → ∀ b ∈ L, H b ≠ none
  | _, _, _, .val _, _, hb => nomatch hb
  | _, _, _, .frz _, _, hb => nomatch hb
  | _, _, _, .nod h r n, b, hb => by
    rcases List.mem_cons.mp hb with rfl | hb
    · exact some_ne h
    · exact OwAll.there r b hb
theorem OwAll.there {G H : Hp} : ∀ {L : List Addr} {vs : List V} {ds : List Dt}, OwAll G H L vs ds → ∀ b ∈ L, H b ≠ none
  | _, _, _, .nil, _, hb => nomatch hb
  | _, _, _, .cons a r d, b, hb => by
    rcases List.mem_append.mp hb with hb | hb
    · exact Ow.there a b hb
    · exact OwAll.there r b hb
end
theorem OwAll.len {G H : Hp} : ∀ {L : List Addr} {vs : List V} {ds : List Dt}, OwAll G H L vs ds → vs.length = ds.length
  | _, _, _, .nil => rfl
  | _, _, _, .cons _ r _ => congrArg Nat.succ r.len
theorem OwAll.snoc {G H : Hp} {L1 : List Addr} {v : V} {d : Dt} (h : Ow G H L1 v d) : ∀ {L : List Addr} {vs : List V} {ds : List Dt}, OwAll G H L vs ds → (∀ b ∈ L, b ∉ L1) → OwAll G H (L ++ L1) (vs ++ [v]) (ds ++ [d])
  | _, _, _, .nil, _ => by
    have z : OwAll G H (L1 ++ []) [v] [d] := .cons h .nil (fun _ _ z => nomatch z)
    rw [List.append_nil] at z
    exact z
  | _, _, _, .cons (L1 := La) (L2 := Lb) a r n, k => by
    have z := OwAll.cons a (OwAll.snoc h r fun b hb => k b (List.mem_append_right _ hb)) (fun b hb q => by
      rcases List.mem_append.mp q with q | q
      · exact n b hb q
      · exact k b (List.mem_append_left _ hb) q)
    rw [← List.append_assoc] at z
    exact z
theorem OwAll.app {G H : Hp} {L2 : List Addr} {ws : List V} {es : List Dt} (h : OwAll G H L2 ws es) : ∀ {L : List Addr} {vs : List V} {ds : List Dt}, OwAll G H L vs ds → (∀ b ∈ L, b ∉ L2) → OwAll G H (L ++ L2) (vs ++ ws) (ds ++ es)
  | _, _, _, .nil, _ => h
  | _, _, _, .cons (L1 := La) (L2 := Lb) a r n, k => by
    have z := OwAll.cons a (OwAll.app h r fun b hb => k b (List.mem_append_right _ hb)) (fun b hb q => by
      rcases List.mem_append.mp q with q | q
      · exact n b hb q
      · exact k b (List.mem_append_left _ hb) q)
    rw [← List.append_assoc] at z
    exact z
/-! ### trees that are data -/
mutual
inductive Dd : Dt → PyData → Prop
  | non : Dd (.val .non) .none
  | bl (b : Bool) : Dd (.val (.bl b)) (.bool b)
  | int (i : Int) : Dd (.val (.int i)) (.int i)
  | str (x : Str) : Dd (.val (.str x)) (.str x)
  | frz (d : PyData) : Dd (.frz d) d
  | lst {xs : List Dt} {ds : List PyData} : DdAll xs ds → Dd (.nod .lst xs) (.list ds)
  | tup {xs : List Dt} {ds : List PyData} : DdAll xs ds → Dd (.nod .tup xs) (.tuple ds)
inductive DdAll : List Dt → List PyData → Prop
  | nil : DdAll [] []
  | cons {x : Dt} {xs : List Dt} {d : PyData} {ds : List PyData} : Dd x d → DdAll xs ds → DdAll (x :: xs) (d :: ds)
end
mutual
/-- read in any heap that holds its nodes -/
theorem Ow.rp {G H I : Hp} (e : Same G I) : ∀ {L : List Addr} {v : V} {d : Dt} {p : PyData}, Keeps L H I → Ow G H L v d → Dd d p → Rp I v p
  | _, _, _, _, _, .val _, .non => .non
  | _, _, _, _, _, .val _, .bl b => .bl b
  | _, _, _, _, _, .val _, .int i => .int i
  | _, _, _, _, _, .val _, .str x => .str x
  | _, _, _, _, _, .frz r, .frz _ => r.mono e
  | _, _, _, _, k, .nod h r _, .lst q => .lst (k _ List.mem_cons_self _ h) (OwAll.rp e (fun b hb => k b (List.mem_cons_of_mem _ hb)) r q)
  | _, _, _, _, k, .nod h r _, .tup q => .tup (k _ List.mem_cons_self _ h) (OwAll.rp e (fun b hb => k b (List.mem_cons_of_mem _ hb)) r q)
theorem OwAll.rp {G H I : Hp} (e : Same G I) : ∀ {L : List Addr} {vs : List V} {ds : List Dt} {ps : List PyData}, Keeps L H I → OwAll G H L vs ds → DdAll ds ps → RpAll I vs ps
  | _, _, _, _, _, .nil, .nil => .nil
  | _, _, _, _, k, .cons a r _, .cons x xs => .cons (Ow.rp e (fun b hb => k b (List.mem_append_left _ hb)) a x) (OwAll.rp e (fun b hb => k b (List.mem_append_right _ hb)) r xs)
end
def oI (i : Int) : Dt := .val (.int i)
def oB (b : Bool) : Dt := .val (.bl b)
def oF {α : Type} (f : α → PyData) (x : α) : Dt := .frz (f x)
def oL {α : Type} (f : α → Dt) (xs : List α) : Dt := .nod .lst (xs.map f)
def EncO {α : Type} (f : α → Dt) (g : α → PyData) : Prop := ∀ x, Dd (f x) (g x)
theorem encO_I : EncO oI PyData.int := fun i => .int i
theorem encO_B : EncO oB PyData.bool := fun i => .bl i
theorem encO_F {α : Type} {f : α → PyData} : EncO (oF f) f := fun _ => .frz _
theorem EncO.all {α : Type} {f : α → Dt} {g : α → PyData} (h : EncO f g) : ∀ xs : List α, DdAll (xs.map f) (xs.map g)
  | [] => .nil
  | x :: xs => .cons (h x) (EncO.all h xs)
theorem encO_L {α : Type} {f : α → Dt} {g : α → PyData} (h : EncO f g) : EncO (oL f) (encL g) := fun xs => .lst (h.all xs)
theorem keeps_same {L : List Addr} {H H' : Hp} (e : Same H H') : Keeps L H H' := fun b _ o q => e b o q
theorem keeps_refl {L : List Addr} {H : Hp} : Keeps L H H := fun _ _ _ q => q
theorem keeps_mut {L : List Addr} {H H' : Hp} {m : Addr} (x : SameX m H H') (n : ∀ b ∈ L, b ≠ m) : Keeps L H H' := fun b hb o q => x b o q (n b hb)
theorem keeps_muts {L M : List Addr} {H H' : Hp} (x : SameXs M H H') (n : ∀ b ∈ L, b ∉ M) : Keeps L H H' := fun b hb o q => x b o q (n b hb)
theorem keeps_hide {L M : List Addr} {H : Hp} (n : ∀ b ∈ L, b ∉ M) : Keeps L H (hideL M H) := fun b hb o q => by
  rw [hideL_out (n b hb)]
  exact q
section
variable {α : Type} {f : α → Dt} {g : α → PyData} {G H I : Hp} {L : List Addr} {vs : List V} {xs : List α}
theorem OwAll.rpA (w : OwAll G H L vs (xs.map f)) (h : EncO f g) (e : Same G H) : RpAll H vs (xs.map g) := OwAll.rp e keeps_refl w (h.all xs)
theorem OwAll.rpH (w : OwAll G H L vs (xs.map f)) (h : EncO f g) (e : Same G I) (k : Keeps L H I) : RpAll I vs (xs.map g) := OwAll.rp e k w (h.all xs)
theorem OwAll.lenM (w : OwAll G H L vs (xs.map f)) : vs.length = xs.length := by rw [w.len, List.length_map]
theorem OwAll.snocM {L1 : List Addr} {v : V} {y : α} (w : OwAll G H L vs (xs.map f)) (h : Ow G H L1 v (f y)) (n : ∀ b ∈ L, b ∉ L1) : OwAll G H (L ++ L1) (vs ++ [v]) ((xs ++ [y]).map f) := by
  rw [List.map_append]
  exact OwAll.snoc h w n
theorem Ow.ints {a : Addr} {ys : List Int} (h : H a = some (.lst (ys.map V.int))) : Ow G H [a] (.ref a) (oL oI ys) := by
  have z : ∀ ys : List Int, OwAll G H [] (ys.map V.int) (ys.map oI) := fun ys => by
    induction ys with
    | nil => exact .nil
    | cons y r ih => exact .cons (L1 := []) (L2 := []) (.val _) ih (fun _ z => nomatch z)
  exact .nod (k := .lst) h (z ys) (fun z => nomatch z)
theorem Ow.list {a : Addr} {xs : List α} {L : List Addr} {vs : List V} (h : H a = some (.lst vs)) (w : OwAll G H L vs (xs.map f)) (n : ∀ b ∈ L, b ≠ a) : Ow G H (a :: L) (.ref a) (oL f xs) := .nod (k := .lst) h w (fun z => n a z rfl)
theorem Ow.toList {v : V} {L : List Addr} {xs : List α} (w : Ow G H L v (oL f xs)) : ∃ a vs L', v = .ref a ∧ L = a :: L' ∧ H a = some (.lst vs) ∧ OwAll G H L' vs (xs.map f) ∧ ∀ b ∈ L', b ≠ a := by
  unfold oL at w
  cases w with
  | nod h r n => exact ⟨_, _, _, rfl, rfl, h, r, fun b hb z => n (z ▸ hb)⟩
theorem OwAll.toInts : ∀ {L : List Addr} {vs : List V} {xs : List Int}, OwAll G H L vs (xs.map oI) → L = [] ∧ vs = xs.map V.int
  | _, _, [], .nil => ⟨rfl, rfl⟩
  | _, _, x :: xs, .cons a r _ => by
    obtain ⟨h1, h2⟩ := OwAll.toInts r
    cases a
    exact ⟨by rw [h1] <;> rfl, by rw [h2] <;> rfl⟩
theorem Ow.toInts {v : V} {L : List Addr} {xs : List Int} (w : Ow G H L v (oL oI xs)) : ∃ a, v = .ref a ∧ L = [a] ∧ H a = some (.lst (xs.map V.int)) := by
  obtain ⟨a, vs, L', rfl, rfl, h, r, _⟩ := w.toList
  obtain ⟨rfl, rfl⟩ := r.toInts
  exact ⟨a, rfl, rfl, h⟩
/-- the part at a place, and how a change of it alone changes the whole -/
theorem OwAll.part : ∀ {L : List Addr} {vs : List V} {ds : List Dt} {i : Nat} {d : Dt}, OwAll G H L vs ds → ds[i]? = some d → ∃ v L1, vs[i]? = some v ∧ Ow G H L1 v d ∧ (∀ b ∈ L1, b ∈ L) ∧
    ∀ H' d', (∀ b ∈ L, b ∉ L1 → ∀ o, H b = some o → H' b = some o) → Ow G H' L1 v d' → OwAll G H' L vs (ds.set i d')
  | _, _, _, _, _, .nil, h => by simp at h
  | _, _, _, 0, _, .cons (L1 := La) (L2 := Lb) a r n, h => by
    simp at h
    subst h
    refine ⟨_, La, rfl, a, fun b hb => List.mem_append_left _ hb, fun H' d' k w => ?_⟩
    exact .cons w (OwAll.mono (Same.refl G) (fun b hb => k b (List.mem_append_right _ hb) fun z => n b z hb) r) n
  | _, _, _, i + 1, _, .cons (L1 := La) (L2 := Lb) a r n, h => by
    obtain ⟨v, L1, h1, h2, h3, h4⟩ := OwAll.part (i := i) r (by simpa using h)
    refine ⟨v, L1, by simpa using h1, h2, fun b hb => List.mem_append_right _ (h3 b hb), fun H' d' k w => ?_⟩
    refine .cons (Ow.mono (Same.refl G) (fun b hb => k b (List.mem_append_left _ hb) fun z => n b hb (h3 b z)) a) (h4 H' d' (fun b hb nb => k b (List.mem_append_right _ hb) nb) w) n
/-- the same, where the part grows: its new footprint is the old one and what is new -/
theorem OwAll.part2 : ∀ {L : List Addr} {vs : List V} {ds : List Dt} {i : Nat} {d : Dt}, OwAll G H L vs ds → ds[i]? = some d → ∃ v L1, vs[i]? = some v ∧ Ow G H L1 v d ∧ (∀ b ∈ L1, b ∈ L) ∧
    (∀ H' d', (∀ b ∈ L, b ∉ L1 → ∀ o, H b = some o → H' b = some o) → Ow G H' L1 v d' → OwAll G H' L vs (ds.set i d')) ∧
    ∀ H' d' Fv L1', (∀ b ∈ L, b ∉ L1 → ∀ o, H b = some o → H' b = some o) → (∀ b ∈ L1', b ∈ L1 ++ Fv) → (∀ b ∈ Fv, b ∉ L) → Ow G H' L1' v d' → ∃ L', (∀ b ∈ L', b ∈ L ++ Fv) ∧ OwAll G H' L' vs (ds.set i d')
  | _, _, _, _, _, .nil, h => by simp at h
  | _, _, _, 0, _, .cons (L1 := La) (L2 := Lb) a r n, h => by
    simp at h
    subst h
    refine ⟨_, La, rfl, a, fun b hb => List.mem_append_left _ hb, fun H' d' k w => ?_, fun H' d' Fv L1' k s nf w => ⟨L1' ++ Lb, fun b hb => ?_, ?_⟩⟩
    · exact .cons w (OwAll.mono (Same.refl G) (fun b hb => k b (List.mem_append_right _ hb) fun z => n b z hb) r) n
    · rcases List.mem_append.mp hb with hb | hb
      · rcases List.mem_append.mp (s b hb) with q | q
        · exact List.mem_append_left _ (List.mem_append_left _ q)
        · exact List.mem_append_right _ q
      · exact List.mem_append_left _ (List.mem_append_right _ hb)
    · refine .cons w (OwAll.mono (Same.refl G) (fun b hb => k b (List.mem_append_right _ hb) fun z => n b z hb) r) fun b hb q => ?_
      rcases List.mem_append.mp (s b hb) with z | z
      · exact n b z q
      · exact nf b z (List.mem_append_right _ q)
  | _, _, _, i + 1, _, .cons (L1 := La) (L2 := Lb) a r n, h => by
    obtain ⟨v, L1, h1, h2, h3, h4, h5⟩ := OwAll.part2 (i := i) r (by simpa using h)
    refine ⟨v, L1, by simpa using h1, h2, fun b hb => List.mem_append_right _ (h3 b hb), fun H' d' k w => ?_, fun H' d' Fv L1' k s nf w => ?_⟩
    · refine .cons (Ow.mono (Same.refl G) (fun b hb => k b (List.mem_append_left _ hb) fun z => n b hb (h3 b z)) a) (h4 H' d' (fun b hb nb => k b (List.mem_append_right _ hb) nb) w) n
    · obtain ⟨L', s2, z⟩ := h5 H' d' Fv L1' (fun b hb nb => k b (List.mem_append_right _ hb) nb) s (fun b hb q => nf b hb (List.mem_append_right _ q)) w
      refine ⟨La ++ L', fun b hb => ?_, .cons (Ow.mono (Same.refl G) (fun b hb => k b (List.mem_append_left _ hb) fun z => n b hb (h3 b z)) a) z fun b hb q => ?_⟩
      · rcases List.mem_append.mp hb with hb | hb
        · exact List.mem_append_left _ (List.mem_append_left _ hb)
        · rcases List.mem_append.mp (s2 b hb) with q | q
          · exact List.mem_append_left _ (List.mem_append_right _ q)
          · exact List.mem_append_right _ q
      · rcases List.mem_append.mp (s2 b q) with y | y
        · exact n b hb y
        · exact nf b y (List.mem_append_left _ hb)
theorem OwAll.partM [Inhabited α] {k : Int} (w : OwAll G H L vs (xs.map f)) (h : -(xs.length : Int) ≤ k ∧ k < xs.length) : ∃ v L1, atI vs k = some v ∧ Ow G H L1 v (f (itD xs k)) ∧ (∀ b ∈ L1, b ∈ L) ∧
    (∀ H' y, (∀ b ∈ L, b ∉ L1 → ∀ o, H b = some o → H' b = some o) → Ow G H' L1 v (f y) → OwAll G H' L vs ((setL xs k y).map f)) ∧
    ∀ H' y Fv L1', (∀ b ∈ L, b ∉ L1 → ∀ o, H b = some o → H' b = some o) → (∀ b ∈ L1', b ∈ L1 ++ Fv) → (∀ b ∈ Fv, b ∉ L) → Ow G H' L1' v (f y) → ∃ L', (∀ b ∈ L', b ∈ L ++ Fv) ∧ OwAll G H' L' vs ((setL xs k y).map f) := by
  obtain ⟨j, e, hj⟩ := ixN_some h
  have hx := List.getElem?_eq_getElem hj
  obtain ⟨v, L1, h1, h2, h3, h4, h5⟩ := OwAll.part2 (i := j) (d := f xs[j]) w (by rw [List.getElem?_map, hx] <;> rfl)
  have ei : itD xs k = xs[j] := by
    unfold itD atI
    rw [e]
    show (xs[j]?).getD default = _
    rw [hx] <;> rfl
  refine ⟨v, L1, ?_, by rw [ei]; exact h2, h3, fun H' y q w2 => ?_, fun H' y Fv L1' q s nf w2 => ?_⟩
  · unfold atI
    rw [w.lenM, e]
    exact h1
  · have z := h4 H' (f y) q w2
    unfold setL
    rw [e, List.map_set]
    exact z
  · obtain ⟨L', s2, z⟩ := h5 H' (f y) Fv L1' q s nf w2
    refine ⟨L', s2, ?_⟩
    unfold setL
    rw [e, List.map_set]
    exact z
theorem grow_keeps {L L1 : List Addr} {m : Addr} {H H1 H2 : Hp} (e : Same H H1) (x : SameX m H1 H2) (hm : m ∈ L1) : ∀ b ∈ L, b ∉ L1 → ∀ o, H b = some o → H2 b = some o := fun b _ n o q => x b o (e b o q) (fun z => n (z ▸ hm))
theorem grow_sub {a : Addr} {L' Lr Fv : List Addr} (h : ∀ b ∈ L', b ∈ Lr ++ Fv) : ∀ b ∈ a :: L', b ∈ (a :: Lr) ++ Fv := fun b hb => by
  rcases List.mem_cons.mp hb with rfl | hb
  · exact List.mem_cons_self
  · exact List.mem_cons_of_mem _ (h b hb)
/-- the item of a turn -/
theorem OwAll.turn {i : Nat} {v : V} (w : OwAll G H L vs (xs.map f)) (h : vs[i]? = some v) : ∃ x L1, xs[i]? = some x ∧ Ow G H L1 v (f x) ∧ ∀ b ∈ L1, b ∈ L := by
  have hl := get_len h
  have e := w.lenM
  have hx := List.getElem?_eq_getElem (show i < xs.length by omega)
  obtain ⟨v2, L1, h1, h2, h3, _⟩ := OwAll.part (i := i) (d := f xs[i]) w (by rw [List.getElem?_map, hx] <;> rfl)
  rw [h] at h1
  cases h1
  exact ⟨_, L1, hx, h2, h3⟩
end
/-! ### what is owned, in pieces -/
theorem all_app {P : Addr → Prop} {L l : List Addr} (h : ∀ x ∈ L, P x) (t : ∀ x ∈ l, P x) : ∀ x ∈ L ++ l, P x := fun x hx => by
  rcases List.mem_append.mp hx with q | q
  · exact h x q
  · exact t x q
theorem nm_nil {a : Addr} : a ∉ ([] : List Addr) := fun z => nomatch z
theorem nm_cons {a m : Addr} {l : List Addr} (h : a ≠ m) (t : a ∉ l) : a ∉ m :: l := fun z => by
  rcases List.mem_cons.mp z with q | q
  · exact h q
  · exact t q
theorem nm_app {a : Addr} {L l : List Addr} (h : a ∉ L) (t : a ∉ l) : a ∉ L ++ l := fun z => by
  rcases List.mem_append.mp z with q | q
  · exact h q
  · exact t q
theorem there_ne {H : Hp} {L : List Addr} {x : Addr} (t : ∀ b ∈ L, H b ≠ none) (n : H x = none) : ∀ b ∈ L, b ≠ x := fun b hb z => t b hb (z ▸ n)
theorem new_ne {H : Hp} {L : List Addr} {x : Addr} {o : HO} (n : ∀ b ∈ L, H b = none) (h : H x = some o) : ∀ b ∈ L, b ≠ x := fun b hb z => by
  have := n b hb
  rw [z, h] at this
  cases this
theorem new_nl {H : Hp} {L L2 : List Addr} (n : ∀ b ∈ L, H b = none) (t : ∀ b ∈ L2, H b ≠ none) : ∀ b ∈ L, b ∉ L2 := fun b hb z => t b z (n b hb)
theorem nl_symm {L L2 : List Addr} (h : ∀ b ∈ L, b ∉ L2) : ∀ b ∈ L2, b ∉ L := fun b hb z => h b z hb
theorem none_of_same {H H' : Hp} {x : Addr} (e : Same H H') (n : H' x = none) : H x = none := by
  cases q : H x with
  | none => rfl
  | some o =>
    rw [e x o q] at n
    cases n
section
variable {M : List Addr} {H0 G0 G H H' : Hp} {O L : List Addr} {p m : Addr} {o : HO}
theorem Sep.h0 (S : Sep M H0 G0 G H O) {b : Addr} (hb : b ∈ O) (hM : b ∉ M) : H0 b = none := (S.ow b hb).2.2.elim (fun z => (hM z).elim) id
theorem g_nl {a : Addr} {o : HO} (h : G a = some o) (S : Sep M H0 G0 G H O) (hL : ∀ b ∈ L, b ∈ O) : ∀ b ∈ L, b ≠ a := fun b hb => (g_ne h S (hL b hb)).symm
theorem b_nl {a : Addr} {o : HO} (h : (hideL M H0) a = some o) (S : Sep M H0 G0 G H O) (hL : ∀ b ∈ L, b ∈ O) : ∀ b ∈ L, b ≠ a := fun b hb => (b_ne h S (hL b hb)).symm
/-- a whole tree that is to stay as it is -/
theorem Sep.freezeL (S : Sep M H0 G0 G H O) {O' : List Addr} (hL : ∀ b ∈ L, b ∈ O) (h0 : ∀ b ∈ L, H0 b = none) (hO : ∀ b ∈ O', b ∈ O ∧ b ∉ L) : ∃ G', Same G G' ∧ Keeps L H G' ∧ Sep M H0 G0 G' H O' := by
  have gn : ∀ b ∈ L, G b = none := fun b hb => (S.ow b (hL b hb)).1
  refine ⟨fun b => if b ∈ L then H b else G b, fun b u q => ?_, fun b hb u q => ?_, S.base, S.pm, fun b u q => ?_, fun b u q => ?_, fun b hb gb => ?_, fun a ha => ?_⟩
  · have n : b ∉ L := fun z => by
      rw [gn b z] at q
      cases q
    show (if b ∈ L then H b else G b) = _
    rw [if_neg n]
    exact q
  · show (if b ∈ L then H b else G b) = _
    rw [if_pos hb]
    exact q
  · by_cases z : b ∈ L
    · exact (if_pos z).symm.trans q
    · exact S.sG b u ((if_neg z).symm.trans q)
  · have z : b ∉ L := fun z => by
      have := S.g0 b u q
      rw [gn b z] at this
      cases this
    show (if b ∈ L then H b else G b) = _
    rw [if_neg z]
    exact S.g0 b u q
  · have z : b ∉ L := fun z => hb (h0 b z)
    show (if b ∈ L then H b else G b) = _
    rw [if_neg z]
    exact S.gn b hb gb
  · obtain ⟨h1, h2⟩ := hO a ha
    refine ⟨?_, (S.ow a h1).2⟩
    show (if a ∈ L then H a else G a) = _
    rw [if_neg h2]
    exact (S.ow a h1).1
/-- a callee hands over a list of lists of its own making -/
theorem Sep.steptree (S : Sep M H0 G0 G H O) {G' : Hp} (e : Same H H') (eG : Same G G') (sG : Same G' H') (hn : ∀ b, H b ≠ none → G b = none → G' b = none) (L : List Addr) (hL : ∀ b ∈ L, H b = none ∧ G' b = none ∧ H' b ≠ none) : Sep M H0 G0 G' H' (L ++ O) := by
  have S2 := S.step e eG sG hn
  refine ⟨S2.base, S2.pm, S2.sG, S2.g0, S2.gn, all_app (fun b hb => ⟨(hL b hb).2.1, (hL b hb).2.2, .inr (S.free (hL b hb).1)⟩) S2.ow⟩
end
theorem Rp.list_of {α : Type} {g : α → PyData} {H : Hp} {a : Addr} {vs : List V} {xs : List α} (h : H a = some (.lst vs)) (r : RpAll H vs (xs.map g)) : Rp H (.ref a) (encL g xs) := .lst h r
/-! ### repr of data -/
mutual
def nodes : PyData → Nat
  | .list xs => 1 + nodesAll xs
  | .tuple xs => 1 + nodesAll xs
  | _ => 1
def nodesAll : List PyData → Nat
  | [] => 0
  | x :: xs => nodes x + nodesAll xs
end
mutual
def smallD : PyData → Bool
  | .none => true
  | .bool _ => true
  | .int i => decide (i.natAbs < 10 ^ 19)
  | .str x => decide ((reprText x).length ≤ 20)
  | .list xs => smallAll xs
  | .tuple xs => smallAll xs
  | _ => false
def smallAll : List PyData → Bool
  | [] => true
  | x :: xs => smallD x && smallAll xs
end
theorem piled_list (ts : List Str) : (listText ts).length ≤ piled ts + 2 := by
  cases ts with
  | nil => exact Nat.le_refl 2
  | cons t r =>
    have e : (listText (t :: r)).length = (textFrom 1 ("[" ++ ("" : String) ++ t) r).length + 1 := by
      show (textFrom 0 "[" (t :: r) ++ "]").length = _
      rw [strLen_append]
      rfl
    rw [e, textFrom_length_pos r 1 _ (by decide), piled_cons, strLen_append, strLen_append]
    have h1 : (("[" : String) : Str).length = 1 := rfl
    have h2 : (("" : String) : Str).length = 0 := rfl
    omega
theorem piled_tup (ts : List Str) : (tupleText ts).length ≤ piled ts + 3 := by
  unfold tupleText
  rw [strLen_append, strLen_append]
  have h1 : (("(" : String) : Str).length = 1 := rfl
  have h2 : (((if ts.length == 1 then ",)" else ")" : String) : Str)).length ≤ 2 := by split <;> decide
  by_cases h : ts = []
  · subst h
    exact Nat.le_of_lt (by decide)
  · have := join_length_add ts h
    omega
mutual
theorem small_shown : ∀ d : PyData, smallD d = true → d.shown.length + 4 ≤ 26 * nodes d ∧ d.showable = true ∧ d.hasDict = false
  | .none, _ => ⟨by simp only [PyData.shown, nodes]; decide, by simp [PyData.showable], by simp [PyData.hasDict]⟩
  | .bool b, _ => ⟨by cases b <;> simp only [PyData.shown, nodes] <;> decide, by simp [PyData.showable], by simp [PyData.hasDict]⟩
  | .int i, h => by
    have h : i.natAbs < 10 ^ 19 := by simpa [smallD] using h
    refine ⟨?_, ?_, by simp [PyData.hasDict]⟩
    · have := int_text_length_le10 (k := 19) (by decide) h
      simp only [PyData.shown, nodes]
      rw [PySem.ofString_length]
      omega
    · simp only [PyData.showable, decide_eq_true_eq]
      have : i.natAbs < 2 ^ 64 := by omega
      rcases Nat.eq_zero_or_pos i.natAbs with z | z
      · rw [z]
        decide
      · have := (Nat.log2_lt (by omega)).mpr this
        omega
  | .str x, h => by
    have h : (reprText x).length ≤ 20 := by simpa [smallD] using h
    refine ⟨by simp only [PyData.shown, nodes]; omega, by simp [PyData.showable], by simp [PyData.hasDict]⟩
  | .list xs, h => by
    obtain ⟨h1, h2, h3⟩ := small_shownAll xs (by simpa [smallD] using h)
    refine ⟨?_, by simpa [PyData.showable] using h2, by simpa [PyData.hasDict] using h3⟩
    have := piled_list (PyData.shownAll xs)
    simp only [PyData.shown, nodes]
    omega
  | .tuple xs, h => by
    obtain ⟨h1, h2, h3⟩ := small_shownAll xs (by simpa [smallD] using h)
    refine ⟨?_, by simpa [PyData.showable] using h2, by simpa [PyData.hasDict] using h3⟩
    have := piled_tup (PyData.shownAll xs)
    simp only [PyData.shown, nodes]
    omega
  | .dict kvs, h => by simp [smallD] at h
theorem small_shownAll : ∀ ds : List PyData, smallAll ds = true → piled (PyData.shownAll ds) ≤ 26 * nodesAll ds ∧ PyData.showableAll ds = true ∧ PyData.hasDictAll ds = false
  | [], _ => ⟨by simp [PyData.shownAll, nodesAll, piled], by simp [PyData.showableAll], by simp [PyData.hasDictAll]⟩
  | d :: ds, h => by
    have h : smallD d = true ∧ smallAll ds = true := by simpa [smallAll] using h
    obtain ⟨a1, a2, a3⟩ := small_shown d h.1
    obtain ⟨b1, b2, b3⟩ := small_shownAll ds h.2
    refine ⟨?_, by simp [PyData.showableAll, a2, b2], by simp [PyData.hasDictAll, a3, b3]⟩
    simp only [PyData.shownAll, nodesAll, piled_cons]
    omega
end
/-- data that repr may show -/
def ShowOk (d : PyData) : Prop := smallD d = true ∧ nodes d ≤ 600000 ∧ d.depth ≤ 60
instance (d : PyData) : Decidable (ShowOk d) := by unfold ShowOk; infer_instance
def rRepr : List V → Hp → VK → Prop := fun xs H Q => ∃ (a : Addr) (d : PyData), xs = [.ref a] ∧ Rp H (.ref a) d ∧ ShowOk d ∧ Q (.str d.shown) H
theorem call_reprD {X : Cx} (hg : X.A.guards = some []) (hu : X.A.units + 64 < cLine) : CallR X (.builtin "repr") rRepr := by
  intro pins s σ H xs us Q I r h
  obtain ⟨a, d, rfl, rp, ⟨ok, nd, dp⟩, q⟩ := h
  obtain ⟨h1, h2, h3⟩ := small_shown d ok
  cases r with
  | cons ra rn =>
    cases rn
    cases ra
    obtain ⟨as, reads⟩ := Dp.reads I d _ _ rp.dp rfl
    refine repr_of_reads' reads h2 (PyData.noDict_hsm h3) hg (by omega) (fun _ _ e => e) (fun h' u tk k => ⟨.str d.shown, H, I.kept k, ⟨u, rfl⟩, q⟩) ?_
    show d.shown.length ≤ 2 ^ 24
    omega
/-- small data: nodes, depth -/
def Sm (n k : Nat) (d : PyData) : Prop := smallD d = true ∧ nodes d ≤ n ∧ d.depth ≤ k
theorem Sm.imp {n k n' k' : Nat} {d : PyData} (h : Sm n k d) (a : n ≤ n') (b : k ≤ k') : Sm n' k' d := ⟨h.1, Nat.le_trans h.2.1 a, Nat.le_trans h.2.2 b⟩
theorem Sm.show {n k : Nat} {d : PyData} (h : Sm n k d) (a : n ≤ 600000 := by decide) (b : k ≤ 60 := by decide) : ShowOk d := h.imp a b
theorem sm_non : Sm 1 0 .none := ⟨by simp [smallD], by simp [nodes], by simp [PyData.depth]⟩
theorem sm_bool (b : Bool) : Sm 1 0 (.bool b) := ⟨by simp [smallD], by simp [nodes], by simp [PyData.depth]⟩
theorem sm_int {i : Int} (h : -10000000000000000000 < i ∧ i < 10000000000000000000) : Sm 1 0 (.int i) := ⟨by simp only [smallD, decide_eq_true_eq]; omega, by simp [nodes], by simp [PyData.depth]⟩
theorem sm_all {α : Type} {f : α → PyData} {n k : Nat} : ∀ {xs : List α}, (∀ x ∈ xs, Sm n k (f x)) → smallAll (xs.map f) = true ∧ nodesAll (xs.map f) ≤ xs.length * n ∧ PyData.depthAll (xs.map f) ≤ k
  | [], _ => ⟨by simp [smallAll], by simp [nodesAll], by simp [PyData.depthAll]⟩
  | x :: xs, h => by
    obtain ⟨a1, a2, a3⟩ := h x List.mem_cons_self
    obtain ⟨b1, b2, b3⟩ := sm_all fun y hy => h y (List.mem_cons_of_mem _ hy)
    refine ⟨by simp [smallAll, a1, b1], ?_, ?_⟩
    · simp only [List.map_cons, nodesAll, List.length_cons, Nat.succ_mul]
      omega
    · simp only [List.map_cons, PyData.depthAll]
      omega
theorem sm_L {α : Type} {f : α → PyData} {n k m : Nat} {xs : List α} (h : ∀ x ∈ xs, Sm n k (f x)) (hm : xs.length ≤ m) : Sm (1 + m * n) (k + 1) (encL f xs) := by
  obtain ⟨a1, a2, a3⟩ := sm_all h
  refine ⟨by simp [encL, smallD, a1], ?_, ?_⟩
  · have := Nat.mul_le_mul_right n hm
    simp only [encL, nodes]
    omega
  · simp only [encL, PyData.depth]
    omega
theorem sm_ints {xs : List Int} {m : Nat} (h : ∀ x ∈ xs, -10000000000000000000 < x ∧ x < 10000000000000000000) (hm : xs.length ≤ m) : Sm (1 + m * 1) 1 (encL PyData.int xs) := sm_L (fun x hx => sm_int (h x hx)) hm
theorem sm_T2 {α β : Type} {f : α → PyData} {g : β → PyData} {n k m j : Nat} {p : α × β} (h1 : Sm n k (f p.1)) (h2 : Sm m j (g p.2)) : Sm (1 + n + m) (max k j + 1) (encT2 f g p) := by
  obtain ⟨a1, a2, a3⟩ := h1
  obtain ⟨b1, b2, b3⟩ := h2
  refine ⟨by simp [encT2, smallD, smallAll, a1, b1], ?_, ?_⟩
  · simp only [encT2, nodes, nodesAll]
    omega
  · simp only [encT2, PyData.depth, PyData.depthAll]
    omega
theorem sm_T3 {α β γ : Type} {f : α → PyData} {g : β → PyData} {h : γ → PyData} {n k m j l i : Nat} {p : α × β × γ} (h1 : Sm n k (f p.1)) (h2 : Sm m j (g p.2.1)) (h3 : Sm l i (h p.2.2)) : Sm (1 + n + m + l) (max k (max j i) + 1) (encT3 f g h p) := by
  obtain ⟨a1, a2, a3⟩ := h1
  obtain ⟨b1, b2, b3⟩ := h2
  obtain ⟨c1, c2, c3⟩ := h3
  refine ⟨by simp [encT3, smallD, smallAll, a1, b1, c1], ?_, ?_⟩
  · simp only [encT3, nodes, nodesAll]
    omega
  · simp only [encT3, PyData.depth, PyData.depthAll]
    omega
end Vx
namespace Vx
open PySem PySem.Spec PyProof.Rows L2
theorem new_ne2 {H : Hp} {L : List Addr} {x : Addr} (n : ∀ b ∈ L, H b = none) (h : H x ≠ none) : ∀ b ∈ L, b ≠ x := fun b hb z => h (z ▸ n b hb)
theorem upd_tree {α : Type} {f : α → Dt} {G H H' : Hp} {L L1 : List Addr} {vs : List V} {xs : List α} {k : Int} {v : V} {m : Addr} {y : α} (up : ∀ H' y, (∀ b ∈ L, b ∉ L1 → ∀ o, H b = some o → H' b = some o) → Ow G H' L1 v (f y) → OwAll G H' L vs ((setL xs k y).map f)) (x : SameX m H H') (hm : m ∈ L1) (w : Ow G H' L1 v (f y)) :
    OwAll G H' L vs ((setL xs k y).map f) := up H' y (fun c _ n o q => x c o q (fun z => n (z ▸ hm))) w
theorem Ow.toFrz {α : Type} {f : α → PyData} {G H : Hp} {L : List Addr} {v : V} {x : α} (w : Ow G H L v (oF f x)) : L = [] ∧ Rp G v (f x) := by
  unfold oF at w
  cases w with
  | frz r => exact ⟨rfl, r⟩
section
variable {α : Type} {f : α → Dt} {G H : Hp} {L : List Addr} {vs : List V} {xs : List α}
theorem OwAll.pin {i : Nat} {v : V} {x : α} (w : OwAll G H L vs (xs.map f)) (h : vs[i]? = some v) (hx : xs[i]? = some x) : ∃ L1, Ow G H L1 v (f x) ∧ ∀ b ∈ L1, b ∈ L := by
  obtain ⟨y, L1, h1, h2, h3⟩ := OwAll.turn w h
  rw [hx] at h1
  cases h1
  exact ⟨L1, h2, h3⟩
theorem OwAll.pinInts {i : Nat} {b : Addr} {xs : List (List Int)} {x : List Int} (w : OwAll G H L vs (xs.map (oL oI))) (h : vs[i]? = some (.ref b)) (hx : xs[i]? = some x) : H b = some (.lst (x.map V.int)) ∧ b ∈ L := by
  obtain ⟨L1, w1, h1⟩ := OwAll.pin w h hx
  obtain ⟨c, e, rfl, h2⟩ := Ow.toInts w1
  cases e
  exact ⟨h2, h1 _ List.mem_cons_self⟩
end
end Vx
namespace Vx
open PySem PySem.Spec PyProof.Rows L2
theorem lookup_relab {c : Str → Bool} {y : Str} : ∀ l : List (Str × NameKind), (l.lookup y = some .cell ∨ l.lookup y = some .free) →
    ((l.map fun (n, k) => if (k == .free && c n) then (n, NameKind.cell) else (n, k)).lookup y = some .cell ∨ (l.map fun (n, k) => if (k == .free && c n) then (n, NameKind.cell) else (n, k)).lookup y = some .free)
  | [], h => by simp at h
  | (n, k) :: r, h => by
    rw [List.map_cons]
    dsimp only
    by_cases e : y == n
    · have hk : k = .cell ∨ k = .free := by
        rw [List.lookup_cons, e] at h
        simpa using h
      by_cases q : (k == .free && c n) = true
      · left
        rw [if_pos q, List.lookup_cons, e]
      · rw [if_neg q, List.lookup_cons, e]
        simpa using hk
    · have e : (y == n) = false := by simpa using e
      rw [List.lookup_cons, e] at h
      have ih := lookup_relab (c := c) r h
      by_cases q : (k == .free && c n) = true
      · rw [if_pos q, List.lookup_cons, e]
        exact ih
      · rw [if_neg q, List.lookup_cons, e]
        exact ih
theorem blk_relabel {N : List Str} {sc scope : Scope} {env : Env} {own : List (Str × Nat)} (h : BlkOk N sc scope own) : BlkOk N (relabel sc env) scope own := by
  refine ⟨h.kind, h.uniq, h.ix, fun y hy e => ?_, h.own⟩
  have z := lookup_relab (c := fun n => env.scope.kind == .function && env.kindOf n == some .cell) (y := y.1) sc.names (h.free y hy e)
  unfold relabel
  simpa only [Bool.and_assoc] using z
end Vx
namespace Vx
open PySem PySem.Spec PyProof.Rows L2
theorem FnG.low {P : Program} {w : World} {K : PySem.W.Frag} {mg : Str → Option Value} {base : Heap} {cx : CXT} {j k : Nat} {f : Addr} {fd : FuncData} {ps : List Str} {sp : Sp} (F : FnG P w K mg base cx j f fd ps sp) (h : j ≤ k) : FnG P w K mg base cx k f fd ps sp := ⟨F.len, fun A o s H a us vs Q E r => F.run A o s H a us vs Q E (r.low h)⟩
/-! ### a local name that holds one of several defs -/
structure HeldX (P : Program) (w : World) (K : PySem.W.Frag) (mg : Str → Option Value) (base : Heap) (k n : Nat) (f : Addr) (sp : Sp) : Prop where
  ex : ∃ (fd : FuncData) (ps : List Str), FnG P w K mg base (L2.CX P w) k f fd ps sp ∧ PySem.W.keepIn K (.ref f) = true ∧ Bnd K fd ps n [] (fun vs _ => vs)
theorem HeldX.of {P : Program} {w : World} {K : PySem.W.Frag} {mg : Str → Option Value} {base : Heap} {j k n : Nat} {x : Str} {sp : Sp} {pats : List Pat} {a : Addr} (c : CalX P w K mg base j x sp pats) (hx : mg x = some (.ref a)) (hp : (n, [], fun vs _ => vs) ∈ pats) (hj : j ≤ k) : HeldX P w K mg base k n a sp := by
  obtain ⟨f, fd, ps, F, hm, kp, b⟩ := c.ex
  rw [hx] at hm
  injection hm with hm
  injection hm with hm
  subst hm
  exact ⟨fd, ps, F.low hj, kp, b _ hp⟩
def tCallF (i n : Nat) (L : List (Addr × Sp)) (W : WX) (t : TA) : TE := fun σ H Q => ∃ f sp, σ[i]? = some (some (.ref f)) ∧ (f, sp) ∈ L ∧ t σ H fun vs H1 => vs.length = n ∧ ([] : List V).length = 0 ∧ sp vs H1 Q (WE W σ)
theorem vx_callF {X : Cx} {k j i n : Nat} {x : Str} {p pos : Pos} {e : Expr} {es : List Expr} {t : TA} {W : WX} (L : List (Addr × Sp)) (A : ∀ q ∈ L, HeldX X.prog X.w X.K X.mg X.base k n q.1 q.2) (hr : RoomG j X.A) (hk : k ≤ j) (tkW : Takes X W) (hN : X.N[i]? = some x) (hv : Vis X.env.scope x) (ha : PA X (e :: es) t)
    (hdb : (x == ("__debug__" : Str)) = false := by decide) (hcd : (x == ("__classdict__" : Str)) = false := by decide) (he : starEach (e :: es) X.env = (false, eval e X.env) :: starEach es X.env := by rfl) (hpl : (backTo pos (starEach es X.env)).any (·.1) = false := by rfl) :
    PE X (.Call (.Name x p) (e :: es) [] pos) (tCallF i n L W t) := by
  constructor
  intro pins s σ H Q I h
  obtain ⟨f, sp, slot, mem, rest⟩ := h
  obtain ⟨fd, ps, F, kp, b⟩ := (A _ mem).ex
  refine wpAny_Call_Name_kw (thn ((pe_var (pos := p) hN hv hdb hcd).run pins s σ H (fun v H1 => v = .ref f ∧ H1 = H) I ⟨.ref f, slot, rfl, rfl⟩) ?_)
  rintro u s1 ⟨v, H1, I1, r1, rfl, rfl⟩
  cases r1
  refine PySem.W.callWith_K (h₀ := X.base) I.ok.mod.kin kp (thn (ha.run pos pins s1 σ _ _ I1 rest) ?_) he hpl
  rintro us s2 ⟨vs, H2, I2, r, l1, l2, q⟩
  exact ⟨I2.kIn, run_X (us := us) (ws := []) (zs := []) F (hr.low hk) b tkW I2 r .nil l1 l2 q⟩
/-! ### the least of a list, the place of an item -/
def minL : List Int → Int
  | [] => 0
  | [x] => x
  | x :: y :: r => if x ≤ minL (y :: r) then x else minL (y :: r)
theorem minL_spec : ∀ (xs : List Int), xs ≠ [] → minL xs ∈ xs ∧ ∀ y ∈ xs, minL xs ≤ y
  | [], h => absurd rfl h
  | [x], _ => ⟨List.mem_cons_self, fun y hy => by rw [List.mem_singleton.mp hy]; exact Int.le_refl x⟩
  | x :: y :: r, _ => by
    obtain ⟨h1, h2⟩ := minL_spec (y :: r) (fun z => nomatch z)
    unfold minL
    split
    · refine ⟨List.mem_cons_self, fun z hz => ?_⟩
      rcases List.mem_cons.mp hz with rfl | hz
      · exact Int.le_refl _
      · have := h2 z hz
        omega
    · refine ⟨List.mem_cons_of_mem _ h1, fun z hz => ?_⟩
      rcases List.mem_cons.mp hz with rfl | hz
      · omega
      · exact h2 z hz
def maxL (xs : List Int) : Int := -(minL (xs.map fun x => -x))
theorem maxL_spec (xs : List Int) (h : xs ≠ []) : maxL xs ∈ xs ∧ ∀ y ∈ xs, y ≤ maxL xs := by
  obtain ⟨h1, h2⟩ := minL_spec (xs.map fun x => -x) (by simpa using h)
  obtain ⟨z, hz, e⟩ := List.mem_map.mp h1
  unfold maxL
  refine ⟨by rw [← e, Int.neg_neg]; exact hz, fun y hy => ?_⟩
  have := h2 _ (List.mem_map_of_mem hy)
  omega
section
variable {X : Cx} {K : PySem.W.Frag}
def rMinL (K : PySem.W.Frag) : List V → Hp → VK → Prop := fun vs H Q => ∃ (a : Addr) (ns : List Int), vs = [V.ref a] ∧ SqL K H a (ns.map V.int) ∧ ns ≠ [] ∧ Q (.int (minL ns)) H
def rMaxL (K : PySem.W.Frag) : List V → Hp → VK → Prop := fun vs H Q => ∃ (a : Addr) (ns : List Int), vs = [V.ref a] ∧ SqL K H a (ns.map V.int) ∧ ns ≠ [] ∧ Q (.int (maxL ns)) H
theorem cr_minL (hc : X.calm = true) (hK : X.K = K := by rfl) : CallR X (.builtin "min") (rMinL K) := by
  subst hK
  intro pins s σ H vs us Q I r h
  obtain ⟨a, ns, rfl, hs, hn, q⟩ := h
  refine cr_min hc pins s σ H _ us Q I r ⟨a, ns, rfl, hs, List.length_pos_iff.mpr hn, fun m hm hle => ?_⟩
  obtain ⟨h1, h2⟩ := minL_spec ns hn
  have e : m = minL ns := Int.le_antisymm (by have := hle _ h1; omega) (h2 m hm)
  rw [e]
  exact q
theorem cr_maxL (hc : X.calm = true) (hK : X.K = K := by rfl) : CallR X (.builtin "max") (rMaxL K) := by
  subst hK
  intro pins s σ H vs us Q I r h
  obtain ⟨a, ns, rfl, hs, hn, q⟩ := h
  refine cr_max hc pins s σ H _ us Q I r ⟨a, ns, rfl, hs, List.length_pos_iff.mpr hn, fun m hm hle => ?_⟩
  obtain ⟨h1, h2⟩ := maxL_spec ns hn
  have e : m = maxL ns := Int.le_antisymm (h2 m hm) (by have := hle _ h1; omega)
  rw [e]
  exact q
end
end Vx
namespace Vx
open PySem PySem.Spec PyProof.Rows L2
def idxL (ns : List Int) (i : Int) : Int := (ns.idxOf i : Nat)
def rIndexI (K : PySem.W.Frag) : V → List V → Hp → VK → Prop := fun x xs H Q => ∃ (a : Addr) (ns : List Int) (i : Int), x = V.ref a ∧ xs = [.int i] ∧ SqL K H a (ns.map V.int) ∧ i ∈ ns ∧ Q (.int (idxL ns i)) H
theorem mt_indexI {X : Cx} {K : PySem.W.Frag} (hK : X.K = K := by rfl) : MtR X "list.index" (rIndexI K) := by
  subst hK
  intro pins s σ H x xs v us Q I rx rxs h
  obtain ⟨a, ns, i, rfl, rfl, hs, hi, q⟩ := h
  have hl := List.idxOf_lt_length_of_mem hi
  refine mt_index pins s σ H _ _ v us Q I rx rxs ⟨a, _, .int i, ns.idxOf i, .int i, rfl, rfl, hs, rfl, flat_ints ns, ?_, by simp [eqV], fun m z hm hz => ?_, q⟩
  · rw [List.getElem?_map, List.getElem?_eq_getElem hl, List.getElem_idxOf hl] <;> rfl
  · rw [List.getElem?_map] at hz
    cases e : ns[m]? with
    | none => rw [e] at hz; cases hz
    | some y =>
      rw [e] at hz
      cases hz
      have hml : m < ns.length := by omega
      have hy : ns[m] = y := by
        rw [List.getElem?_eq_getElem hml] at e
        exact Option.some.inj e
      have := List.not_of_lt_findIdx (p := (· == i)) (xs := ns) (i := m) hm
      simp only [beq_iff_eq, hy] at this
      simp [eqV, this]
theorem cW_aftgo {σ ρ τ : Type} {s : σ} {kr : ρ → Rx τ} {k : σ → Rx τ} {K : τ → Prop} {E : Nat → Prop} (h : cW ((Lp.go s : Lp σ ρ).aft kr k) K E) : cW (k s) K E := h
end Vx
namespace Vx
open PySem PySem.Spec PyProof.Rows L2
/-! ### a truth value or a number beside a number -/
def Bi.num : Bi → Int
  | .b x => if x then 1 else 0
  | .n i => i
def Bi.dat : Bi → PyData
  | .b x => .bool x
  | .n i => .int i
section
variable {X : Cx}
def rEqBI : R2 := fun x y H Q => ∃ (b : Bi) (i : Int), x = biV b ∧ y = .int i ∧ Q (.bl (decide (b.num = i))) H
def rNeBI : R2 := fun x y H Q => ∃ (b : Bi) (i : Int), x = biV b ∧ y = .int i ∧ Q (.bl (!decide (b.num = i))) H
theorem eqv_bi (b : Bi) (i : Int) : PyData.eqv b.dat (.int i) = decide (b.num = i) := by
  cases b with
  | b x => cases x <;> (rw [Bool.eq_iff_iff]; simp [Bi.dat, Bi.num, PyData.eqv])
  | n j =>
    rw [Bool.eq_iff_iff]
    simp only [Bi.dat, Bi.num, PyData.eqv, beq_iff_eq]
    exact decide_eq_true_iff.symm
theorem dp_bi {K : PySem.W.Frag} {H : Hp} : ∀ b : Bi, Dp K H (biV b) b.dat
  | .b x => .bl x
  | .n i => .int i
theorem shaped_bi : ∀ b : Bi, SeqAt.shaped b.dat = true
  | .b x => by unfold SeqAt.shaped; simp [Bi.dat, PyData.canLay0, PyData.depth]
  | .n i => by unfold SeqAt.shaped; simp [Bi.dat, PyData.canLay0, PyData.depth]
theorem op_eqBI (hu : X.A.units + 64 < cLine) : OpR X (compareOp .Eq) rEqBI := by
  intro pins s σ H x y v u Q I rx ry h
  obtain ⟨b, i, rfl, rfl, q⟩ := h
  exact op_eqD hu pins s σ H _ _ v u Q I rx ry ⟨b.dat, .int i, dp_bi b, .int i, shaped_bi b, shaped_bi (.n i), by rw [eqv_bi]; exact q⟩
theorem op_neBI (hu : X.A.units + 64 < cLine) : OpR X (compareOp .NotEq) rNeBI := by
  intro pins s σ H x y v u Q I rx ry h
  obtain ⟨b, i, rfl, rfl, q⟩ := h
  exact op_neD hu pins s σ H _ _ v u Q I rx ry ⟨b.dat, .int i, dp_bi b, .int i, shaped_bi b, shaped_bi (.n i), by rw [eqv_bi]; exact q⟩
end
end Vx
namespace Vx
open PySem PySem.Spec PyProof.Rows L2
/-! ### == of own objects by an own __eq__ that never raises -/
section
variable {X : Cx} {k j : Nat}
def rEqX (C : Addr) (n mm : Nat) (sp : Sp) (g : List V → List V → List V) : R2 := fun x y H Q => ∃ (a b dx dy : Addr) (fs gs : List (Str × V)), x = .ref a ∧ y = .ref b ∧ H a = some (.ins C dx fs) ∧ H b = some (.ins C dy gs) ∧ 2 = n ∧ 0 = mm ∧ sp (g [x, y] []) H (fun v H' => (∃ r, v = .bl r) ∧ Q v H') E0
theorem op_eqX {C : Addr} {sp : Sp} {pats : List Pat} (c : MetX X.prog X.w X.K X.mg X.base k C "__eq__" sp pats) (pt : Pat) (hpt : pt ∈ pats) (hr : RoomG j X.A) (hk : k ≤ j) (hks : pt.2.1 = [] := by rfl) : OpR X (compareOp .Eq) (rEqX C pt.1 pt.2.1.length sp pt.2.2) := by
  intro pins s σ H x y v u Q I rx ry hq
  obtain ⟨a, b, dx, dy, fs, gs, rfl, rfl, ha, hb', l1, l2, q⟩ := hq
  obtain ⟨f, fd, ps, hc, hm, F, bb⟩ := c.ex
  cases rx
  cases ry
  obtain ⟨mA, J, _⟩ := ins_get I.hok ha
  obtain ⟨mB, J', _⟩ := ins_get I.hok hb'
  obtain ⟨od, J, _⟩ := J.look
  obtain ⟨od', J', _⟩ := J'.look
  obtain ⟨m, hF⟩ := I.fr
  have hz := run_X (us := [.ref a, .ref b]) (vs := [.ref a, .ref b]) (ws := []) (zs := []) F (hr.low hk) (bb pt hpt) (takes0 (X := X)) I (.cons rfl (.cons rfl .nil)) .nil l1 l2 q
  rw [hks] at hz
  show wpAny (model X.prog X.w) X.A (richCompare .Eq (.ref a) (.ref b)) (EP X pins σ Q) X.xe s
  refine PySem.W.cmp_K (op := .Eq) (tb := .ref C) (hr.low hk).toRoom.units0 hF I.ok.mod.kin J J'.type (by simp [PySem.W.notFirst]) hm.at_ hm.fn ?_
  refine wpAny_mono hz (fun r s' z => ?_) fun _ _ e => e
  obtain ⟨w, H', I', rw', ⟨⟨q1, rfl⟩, q2⟩⟩ := z
  cases rw'
  exact ⟨V.bl q1, H', I', rfl, q2⟩
end
end Vx
namespace Vx
open PySem PySem.Spec PyProof.Rows L2
/-! ### isinstance of the exception in hand: a built-in class, a tuple of classes -/
theorem kit_blt {K : PySem.W.Frag} {D : Addr} {T : String} {b : Bool} (h : PySem.W.subIn K (.ref D) (.type T) = some b) (h0 : PySem.W.kitMeta T = true := by decide +kernel) : PySem.W.kitOne K (.ref D) (.type T) = some b := by
  unfold PySem.W.kitOne
  rw [if_neg (show ¬ (Value.ref D == Value.type T) = true from fun z => nomatch (show false = true from z))]
  show (if PySem.W.kitMeta T = true then PySem.W.subIn K (.ref D) (.type T) else none) = some b
  rw [if_pos h0, h]
def rIsXB (K : PySem.W.Frag) (a : Addr) (cls : Value) (d : Option Addr) : List V → Hp → VK → Prop := fun xs H Q => ∃ (D : Addr) (T : String) (b : Bool), cls = .ref D ∧ d = none ∧ ExcC K D ∧ xs = [.ref a, .ty T] ∧ PySem.W.kitOne K (.ref D) (.type T) = some b ∧ Q (.bl b) H
theorem call_isXB {X : Cx} {K : PySem.W.Frag} {a : Addr} {cls : Value} {d : Option Addr} {oe : Obj} {pn : List (Addr × Obj)} (hz : Zc cls d oe) (hf : ∃ vs, oe.data = .fields vs) (hK : X.K = K := by rfl) : CallR (X.suite a ((a, oe) :: pn)) (.builtin "isinstance") (rIsXB K a cls d) := by
  subst hK
  intro pins s σ H xs us Q I r h
  obtain ⟨D, T, b, rfl, rfl, c, rfl, e, q⟩ := h
  exact call_isE c hz hf pins s σ H _ us Q I r ⟨_, _, b, rfl, fun u z => z, e, q⟩
def rIsXT (K : PySem.W.Frag) (a : Addr) (cls : Value) (d : Option Addr) : List V → Hp → VK → Prop := fun xs H Q => ∃ (D tp : Addr) (cs : List V) (ws : List Value) (b : Bool), cls = .ref D ∧ d = none ∧ ExcC K D ∧ xs = [.ref a, .ref tp] ∧ H tp = some (.tup cs) ∧ Paired ClsV cs ws ∧ PySem.W.kitAny K (.ref D) ws = some b ∧ Q (.bl b) H
theorem call_isXT {X : Cx} {K : PySem.W.Frag} {a : Addr} {cls : Value} {d : Option Addr} {oe : Obj} {pn : List (Addr × Obj)} (hz : Zc cls d oe) (hf : ∃ vs, oe.data = .fields vs) (hK : X.K = K := by rfl) : CallR (X.suite a ((a, oe) :: pn)) (.builtin "isinstance") (rIsXT K a cls d) := by
  subst hK
  intro pins s σ H xs us Q I r h
  obtain ⟨D, tp, cs, ws, b, rfl, rfl, C, rfl, hT, k, e, q⟩ := h
  cases r with
  | cons rx rr =>
    cases rr with
    | cons rt rr =>
      cases rr
      cases rx
      cases rt
      obtain ⟨hget, _⟩ := I.pin (a, oe) (List.mem_append.mpr (.inl List.mem_cons_self))
      obtain ⟨vs, hv⟩ := hf
      have J : PySem.W.InstAt s.heap a oe D none := by
        obtain ⟨oc, od, oda, osl⟩ := oe
        obtain ⟨h1, h2⟩ := hz
        dsimp only at h1 h2 hv
        subst h1 h2 hv
        exact ⟨hget, rfl, rfl, trivial⟩
      obtain ⟨_, its, rv, o, h1, h2, n, h3⟩ := (show ObjOk X.prog X.w H s.heap tp (.tup cs) from I.hok tp _ hT)
      have e3 := ClsV.all k rv
      subst e3
      obtain ⟨oc, od, dt, sl⟩ := o
      simp only at h2 h3
      subst h2 h3
      exact PySem.W.kia_tup (PySem.W.handS_kitx_exc C.hg C.hk C.hs C.hd C.ha C.hn C.ht C.hm) I.kIn J h1 e (fun z => nomatch z) fun tk => ⟨.bl b, H, I.kept (t' := tk) fun _ _ z => z, rfl, q⟩
theorem kit_self {K : PySem.W.Frag} {t : Value} (h : (t == t) = true := by simp) : PySem.W.kitOne K t t = some true := by
  unfold PySem.W.kitOne
  rw [if_pos h]
/-- what a class must say, so that isinstance asks its objects rightly -/
structure IsiC (K : PySem.W.Frag) (C : Addr) : Prop where
  ha : PySem.W.findIn K (.ref C) "__class__" = some (some (.builtin "object.__class__"))
  hn : PySem.W.specialIn K (.builtin "object.__class__") "__get__" = some (some (.builtin "getset_descriptor.__get__"))
  ht : PySem.W.takesIn K (.builtin "object.__class__") = some true
  hm : PySem.W.mroIn K C (.type "object") = some true
theorem tyX_ins {K : PySem.W.Frag} {H : Hp} {a C dx : Addr} {fs : List (Str × V)} (e : H a = some (.ins C dx fs)) (cl : Cls K C) (c : IsiC K C) : TyX K H (.ref a) (.ref C) := .base (.ins e cl c.ha c.hn c.ht c.hm)
end Vx
namespace Vx
open PySem PySem.Spec PyProof.Rows L2
theorem op_notTrue {X : Cx} : OpR X (compareOp .IsNot) (fun x y H Q => ∃ b : Bool, x = .bl b ∧ y = .bl true ∧ Q (.bl (!b)) H) := by
  intro pins s σ H x y v u Q I rx ry h
  obtain ⟨b, rfl, rfl, q⟩ := h
  cases rx
  cases ry
  show wpAny (model X.prog X.w) X.A (compareOp .IsNot (.bool b) (.bool true)) (EP X pins σ Q) X.xe s
  have e : compareOp .IsNot (.bool b) (.bool true) = pure (.bool (!b)) := by cases b <;> rfl
  rw [e]
  exact wpAny_pure ⟨.bl (!b), H, I, rfl, q⟩
end Vx
/-! # zip of any number of lists, the lists in a list -/
namespace Vz
open PySem PySem.Spec PyProof.Rows L2
/-- the iterators stand at n0, n0 + 1, .., behind them the tuple of iterators, the owned tuple, the zip itself -/
structure ZS (n0 : Nat) (ls : List Addr) (i : Nat) (h : Heap) : Prop where
  z : ∃ (x0 : Value) (f : Bool), (x0 = .none ∨ ∃ T : Nat, x0 = rawInt T) ∧ h.get? (n0 + ls.length + 2) = some { cls := .type "zip", dict := none, data := .fields #[x0, .bool f, .bool false, .ref (n0 + ls.length), .ref (n0 + ls.length + 1)], slots := #[] }
  ti : h.get? (n0 + ls.length) = some { cls := .type "tuple", data := .seq ((List.range ls.length).map fun j => Value.ref (n0 + j)).toArray }
  to : ∃ vs : List Value, vs.length = ls.length ∧ h.get? (n0 + ls.length + 1) = some { cls := .type "tuple", data := .seq vs.toArray }
  its : ∀ (j : Nat) (l : Addr), ls[j]? = some l → h.IsListIter (n0 + j) l i
def Out (n0 n c : Nat) : Prop := c < n0 ∨ n0 + n + 2 < c
section
variable {prog : Program} {w : World} {A : Around} {E : Value → Shared → Prop} {s : Shared}
/-- within a free turn, k iterators having moved on -/
structure FS (n0 : Nat) (ls : List Addr) (us : List Value) (i : Nat) (f : Bool) (h0 : Heap) (k : Nat) (h : Heap) : Prop where
  sz : h.objs.size = h0.objs.size
  out : ∀ c : Nat, Out n0 ls.length c → h.get? c = h0.get? c
  z : h.get? (n0 + ls.length + 2) = some { cls := .type "zip", dict := none, data := .fields #[.ellipsis, .bool f, .bool false, .ref (n0 + ls.length), .ref (n0 + ls.length + 1)], slots := #[] }
  ti : h.get? (n0 + ls.length) = some { cls := .type "tuple", data := .seq ((List.range ls.length).map fun j => Value.ref (n0 + j)).toArray }
  to : ∃ vs : List Value, vs.length = ls.length ∧ vs.take k = us.take k ∧ h.get? (n0 + ls.length + 1) = some { cls := .type "tuple", data := .seq vs.toArray }
  its : ∀ (j : Nat) (l : Addr), ls[j]? = some l → h.IsListIter (n0 + j) l (if j < k then i + 1 else i)
theorem nn {a b : Nat} (h : a ≠ b) : @Ne Addr a b := h
theorem iter_of {h h' : Heap} {a l : Addr} {i : Nat} (x : h.IsListIter a l i) (e : h'.get? a = h.get? a) : h'.IsListIter a l i := x.at fun o q => by rw [e]; exact q
theorem list_of {h h' : Heap} {a : Addr} {items : Array Value} (x : h.IsList a items) (e : h'.get? a = h.get? a) : h'.IsList a items := x.at fun o q => by rw [e]; exact q
theorem take_set {us vs : List Value} {k : Nat} {u : Value} (hl : vs.length = us.length) (ht : vs.take k = us.take k) (hu : us[k]? = some u) : (vs.set k u).take (k + 1) = us.take (k + 1) := by
  have hk : k < us.length := (List.getElem?_eq_some_iff.mp hu).1
  apply List.ext_getElem?
  intro j
  by_cases hj : j < k + 1
  · rw [List.getElem?_take_of_lt hj, List.getElem?_take_of_lt hj]
    by_cases e : j = k
    · subst e
      rw [List.getElem?_set_self (by omega), hu]
    · rw [List.getElem?_set_ne (fun z => e z.symm)]
      have := congrArg (fun l => l[j]?) ht
      simpa [List.getElem?_take_of_lt (show j < k by omega)] using this
  · rw [List.getElem?_take_eq_none (by omega), List.getElem?_take_eq_none (by omega)]
/-- one step of a free turn -/
theorem FS.step {n0 : Nat} {ls : List Addr} {us : List Value} {i k : Nat} {f : Bool} {h0 h h2 h3 : Heap} {u : Value} (F : FS n0 ls us i f h0 k h) (hk : k < ls.length) (hl : us.length = ls.length) (hu : us[k]? = some u) {l : Addr} (hll : ls[k]? = some l)
    (h2i : h2.IsListIter (n0 + k) l (i + 1)) (s2 : Heap.SameBut (n0 + k) h h2) {vs : List Value} (hvl : vs.length = ls.length) (hvt : vs.take k = us.take k) (s3 : Heap.SameBut (n0 + ls.length + 1) h2 h3)
    (e3 : h3.get? (n0 + ls.length + 1) = some { cls := .type "tuple", data := .seq (vs.set k u).toArray }) : FS n0 ls us i f h0 (k + 1) h3 := by
  refine ⟨by rw [s3.1, s2.1, F.sz], fun c hc => ?_, ?_, ?_, ⟨vs.set k u, by rw [List.length_set, hvl], take_set (by rw [hvl, hl]) hvt hu, e3⟩, fun j l' hj => ?_⟩
  · have h1 : (c : Nat) ≠ n0 + ls.length + 1 := by unfold Out at hc; omega
    have h2 : (c : Nat) ≠ n0 + k := by unfold Out at hc; omega
    rw [s3.2 c h1, s2.2 c h2, F.out c hc]
  · rw [s3.2 _ (nn (by omega)), s2.2 _ (nn (by omega))]; exact F.z
  · rw [s3.2 _ (nn (by omega)), s2.2 _ (nn (by omega))]; exact F.ti
  · have hjl : j < ls.length := (List.getElem?_eq_some_iff.mp hj).1
    by_cases e : j = k
    · subst e
      rw [hll] at hj
      cases hj
      rw [if_pos (by omega)]
      exact iter_of h2i (s3.2 _ (nn (by omega)))
    · have := F.its j l' hj
      have q : h3.get? (n0 + j) = h.get? (n0 + j) := by rw [s3.2 _ (nn (by omega)), s2.2 _ (nn (by omega))]
      by_cases hlt : j < k
      · rw [if_pos hlt] at this
        rw [if_pos (by omega)]
        exact iter_of this q
      · rw [if_neg hlt] at this
        rw [if_neg (by omega)]
        exact iter_of this q
/-- within a turn whose tuple is still out -/
structure HS (n0 : Nat) (ls : List Addr) (i : Nat) (x0 : Value) (f : Bool) (h0 : Heap) (k : Nat) (h : Heap) : Prop where
  sz : h.objs.size = h0.objs.size
  out : ∀ c : Nat, Out n0 ls.length c → h.get? c = h0.get? c
  z : h.get? (n0 + ls.length + 2) = some { cls := .type "zip", dict := none, data := .fields #[x0, .bool f, .bool false, .ref (n0 + ls.length), .ref (n0 + ls.length + 1)], slots := #[] }
  ti : h.get? (n0 + ls.length) = some { cls := .type "tuple", data := .seq ((List.range ls.length).map fun j => Value.ref (n0 + j)).toArray }
  to : ∃ vs : List Value, vs.length = ls.length ∧ h.get? (n0 + ls.length + 1) = some { cls := .type "tuple", data := .seq vs.toArray }
  its : ∀ (j : Nat) (l : Addr), ls[j]? = some l → h.IsListIter (n0 + j) l (if j < k then i + 1 else i)
theorem HS.step {n0 : Nat} {ls : List Addr} {i k : Nat} {x0 : Value} {f : Bool} {h0 h h2 : Heap} (F : HS n0 ls i x0 f h0 k h) (hk : k < ls.length) {l : Addr} (hll : ls[k]? = some l)
    (h2i : h2.IsListIter (n0 + k) l (i + 1)) (s2 : Heap.SameBut (n0 + k) h h2) : HS n0 ls i x0 f h0 (k + 1) h2 := by
  obtain ⟨vs, hvl, e⟩ := F.to
  refine ⟨by rw [s2.1, F.sz], fun c hc => ?_, ?_, ?_, ⟨vs, hvl, ?_⟩, fun j l' hj => ?_⟩
  · have h2 : (c : Nat) ≠ n0 + k := by unfold Out at hc; omega
    rw [s2.2 c h2, F.out c hc]
  · rw [s2.2 _ (nn (by omega))]; exact F.z
  · rw [s2.2 _ (nn (by omega))]; exact F.ti
  · rw [s2.2 _ (nn (by omega))]; exact e
  · have hjl : j < ls.length := (List.getElem?_eq_some_iff.mp hj).1
    by_cases e : j = k
    · subst e
      rw [hll] at hj
      cases hj
      rw [if_pos (by omega)]
      exact h2i
    · have := F.its j l' hj
      have q : h2.get? (n0 + j) = h.get? (n0 + j) := s2.2 _ (nn (by omega))
      by_cases hlt : j < k
      · rw [if_pos hlt] at this
        rw [if_pos (by omega)]
        exact iter_of this q
      · rw [if_neg hlt] at this
        rw [if_neg (by omega)]
        exact iter_of this q
end
theorem drop_cons {α : Type} {x : α} {rest l : List α} {k : Nat} (e : x :: rest = l.drop k) : l[k]? = some x ∧ rest = l.drop (k + 1) := by
  constructor
  · have := congrArg (fun q => q[0]?) e
    simpa using this.symm
  · have := congrArg List.tail e
    simpa [List.tail_drop] using this
theorem zi_at {n n0 k : Nat} {x : Value × Nat} (h : (((List.range n).map fun j => Value.ref (n0 + j)).zipIdx)[k]? = some x) : k < n ∧ x = (Value.ref (n0 + k), k) := by
  rw [List.getElem?_zipIdx, List.getElem?_map] at h
  by_cases hk : k < n
  · rw [List.getElem?_range hk] at h
    simp at h
    exact ⟨hk, h.symm⟩
  · rw [List.getElem?_eq_none (by simpa using hk)] at h
    cases h
theorem it_at {n n0 k : Nat} {x : Value} (h : ((List.range n).map fun j => Value.ref (n0 + j))[k]? = some x) : k < n ∧ x = Value.ref (n0 + k) := by
  rw [List.getElem?_map] at h
  by_cases hk : k < n
  · rw [List.getElem?_range hk] at h
    simp at h
    exact ⟨hk, h.symm⟩
  · rw [List.getElem?_eq_none (by simpa using hk)] at h
    cases h
section
variable {prog : Program} {w : World} {A : Around} {E : Value → Shared → Prop} {s : Shared}
theorem alive {a : Addr} {Q : Option Obj → Shared → Prop} (h : Q (s.heap.get? a) s) : wpAny (model prog w) A (loadIfAlive a) Q E s := fun _ _ _ => h
/-- what is asked of the lists: all have an item at i; or one has none -/
def Has (h : Heap) (ls : List Addr) (i : Nat) (us : List Value) : Prop := ∀ (j : Nat) (l : Addr) (u : Value), ls[j]? = some l → us[j]? = some u → ∃ xs : Array Value, h.IsList l xs ∧ xs[i]? = some u
theorem next_item {n0 : Nat} {ls : List Addr} {us : List Value} {i : Nat} {Q : Value → Shared → Prop} (hne : ls ≠ []) (hsz : ls.length ≤ 1000000) (st : ZS n0 ls i s.heap) (hl : us.length = ls.length) (low : ∀ l ∈ ls, (l : Nat) < n0)
    (hi : Has s.heap ls i us)
    (hQ : ∀ h', ZS n0 ls (i + 1) h' → h'.get? s.heap.objs.size = some { cls := .type "tuple", data := .seq us.toArray } → h'.objs.size = s.heap.objs.size + 1 →
      (∀ c : Nat, Out n0 ls.length c → ∀ o, s.heap.get? c = some o → h'.get? c = some o) → Q (.ref s.heap.objs.size) { s with heap := h' }) :
    wpAny (model prog w) A (Builtin.«zip.__next__» ⟨[.ref (n0 + ls.length + 2)], []⟩) (fun fin s' => ∃ v, fin = .done (.ret v) ∧ Q v s') E s := by
  obtain ⟨⟨x0, f, hx0, hz⟩, hTI, ⟨vs, hvl, hTO⟩, hits⟩ := st
  have hnz : 0 < ls.length := by cases ls with | nil => exact absurd rfl hne | cons a r => exact Nat.succ_pos _
  have hb : s.heap.objs.size > n0 + ls.length + 2 := Heap.lt_size hz
  show wpAny _ _ (field (.ref (n0 + ls.length + 2)) 2 >>= _) _ _ _
  refine wpAny_bind (wpAny_field hz rfl (x := .bool false) rfl ?_)
  show wpAny _ _ (field (.ref (n0 + ls.length + 2)) 3 >>= _) _ _ _
  refine wpAny_bind (wpAny_field hz rfl (x := .ref (n0 + ls.length)) rfl ?_)
  refine wpAny_bind (wpAny_seqItems hTI rfl ?_)
  have hemp : (((List.range ls.length).map fun j => Value.ref (n0 + j)).toArray).isEmpty = false := by
    simp
    intro z; exact hne z
  simp only []
  rw [if_neg (by rw [hemp]; exact Bool.false_ne_true)]
  show wpAny _ _ (Builtin.SmallTypes.ownedTupleIsFree (.ref (n0 + ls.length + 2)) >>= _) _ _ _
  refine wpAny_bind ?_
  -- two ways
  refine wpAny_mono (Q := fun b s' => (b = true ∧ s' = s) ∨ (b = false ∧ ∃ h f', s' = { s with heap := h } ∧ Heap.SameBut (n0 + ls.length + 2) s.heap h ∧ h.get? (n0 + ls.length + 2) = some { cls := .type "zip", dict := none, data := .fields #[x0, .bool f', .bool false, .ref (n0 + ls.length), .ref (n0 + ls.length + 1)], slots := #[] })) (E := fun _ _ => False) ?_ ?_ (fun _ _ z => z.elim)
  · unfold Builtin.SmallTypes.ownedTupleIsFree
    rcases hx0 with rfl | ⟨T, rfl⟩
    · exact wpAny_bind (wpAny_field hz rfl (x := .none) rfl (wpAny_pure (.inl ⟨rfl, rfl⟩)))
    · refine wpAny_bind (wpAny_field hz rfl (x := rawInt T) rfl ?_)
      show wpAny _ _ (loadIfAlive ((T : Int).toNat) >>= _) _ _ _
      rw [Int.toNat_natCast]
      refine wpAny_bind ?_
      cases hT : s.heap.get? T with
      | none =>
        refine alive ?_
        rw [hT]
        simp only [Option.isNone_none, if_true]
        exact wpAny_pure (.inl ⟨rfl, rfl⟩)
      | some oT =>
        refine alive ?_
        rw [hT]
        simp only [Option.isNone_some, Bool.false_eq_true, if_false]
        refine wpAny_bind (wpAny_field hz rfl (x := .bool f) rfl ?_)
        cases f with
        | true =>
          rw [if_neg (show ¬ ((Value.bool true != Value.bool true) = true) from Bool.false_ne_true)]
          exact wpAny_pure (.inr ⟨rfl, s.heap, true, rfl, Heap.SameBut.refl _ _, hz⟩)
        | false =>
          rw [if_pos (show (Value.bool false != Value.bool true) = true from rfl)]
          exact wpAny_bind (wpAny_setField_rec hz (by simp) fun h₁ hz₁ hs₁ => wpAny_pure (.inr ⟨rfl, h₁, true, rfl, hs₁, hz₁⟩))
  rintro b s1 (⟨rfl, rfl⟩ | ⟨rfl, h₀, f', rfl, hs₀, hz₀⟩)
  · -- the tuple is free
    simp only [if_true]
    refine wpAny_bind (wpAny_rule ?_)
    refine wpAny_bind (wpAny_field hz rfl (x := .ref (n0 + ls.length + 1)) rfl ?_)
    refine wpAny_bind (wpAny_setField_rec hz (by simp) fun h₁ hz₁ hs₁ => ?_)
    refine wpAny_bind ?_
    have F0 : FS n0 ls us i f s1.heap 0 h₁ := by
      refine ⟨hs₁.1, fun c hc => hs₁.2 c (nn (by unfold Out at hc; omega)), hz₁, ?_, ⟨vs, hvl, by simp, ?_⟩, fun j l hj => ?_⟩
      · rw [hs₁.2 _ (nn (by omega))]; exact hTI
      · rw [hs₁.2 _ (nn (by omega))]; exact hTO
      · have hjl : j < ls.length := (List.getElem?_eq_some_iff.mp hj).1
        rw [if_neg (Nat.not_lt_zero _)]
        exact iter_of (hits j l hj) (hs₁.2 _ (nn (by omega)))
    refine wpAny_forIn_list _ (fun rest b s' => ∃ k h, b = (none, ()) ∧ rest = (((List.range ls.length).map fun j => Value.ref (n0 + j)).zipIdx).drop k ∧ k ≤ ls.length ∧ s' = { s1 with heap := h } ∧ FS n0 ls us i f s1.heap k h) _ ?_ ?_ _ _ ⟨0, h₁, rfl, rfl, Nat.zero_le _, rfl, F0⟩
    · rintro x rest b _ ⟨k, h, rfl, hrest, hk, rfl, F⟩
      obtain ⟨hx, hr⟩ := drop_cons hrest
      obtain ⟨hkl, rfl⟩ := zi_at hx
      obtain ⟨l, hll⟩ : ∃ l, ls[k]? = some l := ⟨_, List.getElem?_eq_getElem hkl⟩
      obtain ⟨u, hu⟩ : ∃ u, us[k]? = some u := ⟨_, List.getElem?_eq_getElem (by omega)⟩
      obtain ⟨xs, hxs, hxi⟩ := hi k l u hll hu
      have lo := low l (List.mem_of_getElem? hll)
      have hit := F.its k l hll
      rw [if_neg (Nat.lt_irrefl _)] at hit
      refine wpAny_bind (wpAny_onRaise ?_)
      show wpAny _ _ (Builtin.SmallTypes.nextOf (.ref (n0 + k)) >>= _) _ _ _
      refine wpAny_bind (wpAny_nextOf_list_item hit (list_of hxs (F.out l (.inl lo))) hxi fun h₂ h2i hs₂ => wpAny_pure ?_)
      obtain ⟨vs', hvl', hvt', hto'⟩ := F.to
      have hto2 : h₂.get? (n0 + ls.length + 1) = some { cls := .type "tuple", data := .seq vs'.toArray } := by rw [hs₂.2 _ (nn (by omega))]; exact hto'
      refine wpAny_bind (wpAny_seqItems hto2 rfl ?_)
      refine wpAny_bind (wpAny_updateSeq hto2 rfl ?_ (by simp [hvl']; show _ ≤ sizeLine; unfold sizeLine; omega) (by simp [hvl']; show _ ≤ sizeLine + 1; unfold sizeLine; omega))
      refine wpAny_bind (wpAny_letGo (wpAny_pure ?_))
      refine ⟨k + 1, _, rfl, hr, hkl, rfl, F.step hkl hl hu hll h2i hs₂ hvl' hvt' (Heap.SameBut.update ..) ?_⟩
      rw [Heap.get?_update_self _ hto2 rfl]
      simp [Obj.mapSeq]
    · rintro b _ ⟨k, h, rfl, hrest, hk, rfl, F⟩
      have hkn : k = ls.length := by
        have := congrArg List.length hrest
        simp at this
        omega
      subst hkn
      obtain ⟨vs', hvl', hvt', hto'⟩ := F.to
      have hvu : vs' = us := by rw [List.take_of_length_le (by omega), List.take_of_length_le (by omega)] at hvt'; exact hvt'
      subst hvu
      refine wpAny_bind (wpAny_seqItems hto' rfl ?_)
      refine wpAny_bind (wpAny_newTuple ?_ (by simp [hvl']; unfold sizeLine; omega))
      show wpAny _ _ (Builtin.SmallTypes.ownedTupleHandOut (.ref (n0 + ls.length + 2)) (.ref h.objs.size) >>= _) _ _ _
      refine wpAny_bind ?_
      unfold Builtin.SmallTypes.ownedTupleHandOut
      have hz₆ := Heap.get?_push_of_some { cls := .type "tuple", data := .seq vs'.toArray } F.z
      have hTT : (h.push { cls := .type "tuple", data := .seq vs'.toArray }).get? h.objs.size = some { cls := .type "tuple", data := .seq vs'.toArray } := Heap.get?_push_size _ rfl
      refine wpAny_bind (wpAny_setField_rec (s := { s1 with heap := h.push _ }) hz₆ (by simp) fun h₇ hz₇ hs₇ => ?_)
      refine wpAny_setField_rec (s := { s1 with heap := h₇ }) hz₇ (by simp) fun h₈ hz₈ hs₈ => ?_
      have hsz' : h.objs.size = s1.heap.objs.size := F.sz
      have up : ∀ c : Nat, c ≠ n0 + ls.length + 2 → ∀ o, h.get? c = some o → h₈.get? c = some o := fun c c1 o e => by
        rw [hs₈.2 c (nn c1), hs₇.2 c (nn c1)]
        exact Heap.get?_push_of_some _ e
      refine wpAny_pure ⟨_, rfl, ?_⟩
      show Q (.ref h.objs.size) _
      rw [hsz']
      refine hQ h₈ ⟨⟨_, _, .inr ⟨_, rfl⟩, hz₈⟩, up _ (by omega) _ F.ti, ⟨vs', hvl', up _ (by omega) _ hto'⟩, fun j l hj => ?_⟩ ?_ ?_ ?_
      · have hjl : j < ls.length := (List.getElem?_eq_some_iff.mp hj).1
        have := F.its j l hj
        rw [if_pos hjl] at this
        exact this.at fun o q => up _ (by omega) _ q
      · rw [← hsz', hs₈.2 _ (nn (by omega)), hs₇.2 _ (nn (by omega))]
        exact hTT
      · rw [hs₈.1, hs₇.1, Heap.size_push, hsz']
      · intro c hc o q
        have hc' := hc
        unfold Out at hc
        exact up c (by omega) o (by rw [F.out c hc']; exact q)
  · simp only [Bool.false_eq_true, if_false]
    refine wpAny_bind ?_
    have F0 : HS n0 ls i x0 f' s.heap 0 h₀ := by
      refine ⟨hs₀.1, fun c hc => hs₀.2 c (nn (by unfold Out at hc; omega)), hz₀, ?_, ⟨vs, hvl, ?_⟩, fun j l hj => ?_⟩
      · rw [hs₀.2 _ (nn (by omega))]; exact hTI
      · rw [hs₀.2 _ (nn (by omega))]; exact hTO
      · have hjl : j < ls.length := (List.getElem?_eq_some_iff.mp hj).1
        rw [if_neg (Nat.not_lt_zero _)]
        exact iter_of (hits j l hj) (hs₀.2 _ (nn (by omega)))
    rw [← Array.forIn_toList]
    refine wpAny_forIn_list _ (fun rest b s' => ∃ k h, b = (none, (us.take k).toArray) ∧ rest = ((List.range ls.length).map fun j => Value.ref (n0 + j)).drop k ∧ k ≤ ls.length ∧ s' = { s with heap := h } ∧ HS n0 ls i x0 f' s.heap k h) _ ?_ ?_ _ _ ⟨0, h₀, by simp, by simp, Nat.zero_le _, rfl, F0⟩
    · rintro x rest b _ ⟨k, h, rfl, hrest, hk, rfl, F⟩
      obtain ⟨hx, hr⟩ := drop_cons hrest
      obtain ⟨hkl, rfl⟩ := it_at hx
      obtain ⟨l, hll⟩ : ∃ l, ls[k]? = some l := ⟨_, List.getElem?_eq_getElem hkl⟩
      obtain ⟨u, hu⟩ : ∃ u, us[k]? = some u := ⟨_, List.getElem?_eq_getElem (by omega)⟩
      obtain ⟨xs, hxs, hxi⟩ := hi k l u hll hu
      have lo := low l (List.mem_of_getElem? hll)
      have hit := F.its k l hll
      rw [if_neg (Nat.lt_irrefl _)] at hit
      refine wpAny_bind (wpAny_holding ?_)
      show wpAny _ _ (Builtin.SmallTypes.nextOf (.ref (n0 + k)) >>= _) _ _ _
      refine wpAny_bind (wpAny_nextOf_list_item hit (list_of hxs (F.out l (.inl lo))) hxi fun h₂ h2i hs₂ => wpAny_pure ?_)
      refine wpAny_pure ⟨k + 1, h₂, ?_, hr, hkl, rfl, F.step hkl hll h2i hs₂⟩
      rw [List.take_succ, hu]
      simp
    · rintro b _ ⟨k, h, rfl, hrest, hk, rfl, F⟩
      have hkn : k = ls.length := by
        have := congrArg List.length hrest
        simp at this
        omega
      subst hkn
      have hut : us.take ls.length = us := List.take_of_length_le (by omega)
      rw [hut]
      refine wpAny_bind (wpAny_newTuple ?_ (by simp [hl]; unfold sizeLine; omega))
      refine wpAny_pure ⟨_, rfl, ?_⟩
      have hsz' : h.objs.size = s.heap.objs.size := F.sz
      show Q (.ref h.objs.size) _
      have hT : (h.push { cls := .type "tuple", data := .seq us.toArray }).get? h.objs.size = some { cls := .type "tuple", data := .seq us.toArray } := Heap.get?_push_size _ rfl
      have up : ∀ (c : Nat) o, h.get? c = some o → (h.push { cls := .type "tuple", data := .seq us.toArray }).get? c = some o := fun c o e => Heap.get?_push_of_some _ e
      rw [hsz']
      obtain ⟨vs', hvl', hto'⟩ := F.to
      refine hQ (h.push { cls := .type "tuple", data := .seq us.toArray }) ⟨⟨x0, f', hx0, up _ _ F.z⟩, up _ _ F.ti, ⟨vs', hvl', up _ _ hto'⟩, fun j l hj => ?_⟩ ?_ ?_ ?_
      · have hjl : j < ls.length := (List.getElem?_eq_some_iff.mp hj).1
        have := F.its j l hj
        rw [if_pos hjl] at this
        exact this.at fun o q => up _ _ q
      · rw [← hsz']
        exact hT
      · rw [Heap.size_push, hsz']
      · intro c hc o q
        exact up c o (by rw [F.out c hc]; exact q)
theorem HS.step2 {n0 : Nat} {ls : List Addr} {i k : Nat} {x0 : Value} {f : Bool} {h0 h h2 h3 : Heap} (F : HS n0 ls i x0 f h0 k h) (hk : k < ls.length) {l : Addr} (hll : ls[k]? = some l)
    (h2i : h2.IsListIter (n0 + k) l (i + 1)) (s2 : Heap.SameBut (n0 + k) h h2) (s3 : Heap.SameBut (n0 + ls.length + 1) h2 h3) {vs : List Value} (hvl : vs.length = ls.length) (e3 : h3.get? (n0 + ls.length + 1) = some { cls := .type "tuple", data := .seq vs.toArray }) : HS n0 ls i x0 f h0 (k + 1) h3 := by
  have G := F.step hk hll h2i s2
  refine ⟨by rw [s3.1, G.sz], fun c hc => ?_, ?_, ?_, ⟨vs, hvl, e3⟩, fun j l' hj => ?_⟩
  · rw [s3.2 c (nn (by unfold Out at hc; omega)), G.out c hc]
  · rw [s3.2 _ (nn (by omega))]; exact G.z
  · rw [s3.2 _ (nn (by omega))]; exact G.ti
  · have hjl : j < ls.length := (List.getElem?_eq_some_iff.mp hj).1
    exact iter_of (G.its j l' hj) (s3.2 _ (nn (by omega)))
theorem next_end {n0 : Nat} {ls : List Addr} {i : Nat} {Q : Fin → Shared → Prop} (hh : A.handled = none) (hsz : ls.length ≤ 1000000) (st : ZS n0 ls i s.heap) (low : ∀ l ∈ ls, (l : Nat) < n0)
    (hls : ∀ (j : Nat) (l : Addr), ls[j]? = some l → ∃ xs : Array Value, s.heap.IsList l xs) (hend : ∃ (j : Nat) (l : Addr), ls[j]? = some l ∧ ∀ xs : Array Value, s.heap.IsList l xs → xs[i]? = none)
    (hE : ∀ h' e, (∀ c : Nat, Out n0 ls.length c → ∀ o, s.heap.get? c = some o → h'.get? c = some o) → (∃ o, h'.get? e = some o ∧ o.cls = .type "StopIteration") → E (.ref e) { s with heap := h' }) :
    wpAny (model prog w) A (Builtin.«zip.__next__» ⟨[.ref (n0 + ls.length + 2)], []⟩) Q E s := by
  obtain ⟨⟨x0, f, hx0, hz⟩, hTI, ⟨vs, hvl, hTO⟩, hits⟩ := st
  obtain ⟨jm, lm, hjm, hnone⟩ := hend
  have hjml : jm < ls.length := (List.getElem?_eq_some_iff.mp hjm).1
  have hb : s.heap.objs.size > n0 + ls.length + 2 := Heap.lt_size hz
  show wpAny _ _ (field (.ref (n0 + ls.length + 2)) 2 >>= _) _ _ _
  refine wpAny_bind (wpAny_field hz rfl (x := .bool false) rfl ?_)
  show wpAny _ _ (field (.ref (n0 + ls.length + 2)) 3 >>= _) _ _ _
  refine wpAny_bind (wpAny_field hz rfl (x := .ref (n0 + ls.length)) rfl ?_)
  refine wpAny_bind (wpAny_seqItems hTI rfl ?_)
  have hemp : (((List.range ls.length).map fun j => Value.ref (n0 + j)).toArray).isEmpty = false := by
    simp
    intro z; subst z; exact Nat.not_lt_zero _ hjml
  simp only []
  rw [if_neg (by rw [hemp]; exact Bool.false_ne_true)]
  show wpAny _ _ (Builtin.SmallTypes.ownedTupleIsFree (.ref (n0 + ls.length + 2)) >>= _) _ _ _
  refine wpAny_bind ?_
  refine wpAny_mono (Q := fun b s' => (b = true ∧ s' = s) ∨ (b = false ∧ ∃ h f', s' = { s with heap := h } ∧ Heap.SameBut (n0 + ls.length + 2) s.heap h ∧ h.get? (n0 + ls.length + 2) = some { cls := .type "zip", dict := none, data := .fields #[x0, .bool f', .bool false, .ref (n0 + ls.length), .ref (n0 + ls.length + 1)], slots := #[] })) (E := fun _ _ => False) ?_ ?_ (fun _ _ z => z.elim)
  · unfold Builtin.SmallTypes.ownedTupleIsFree
    rcases hx0 with rfl | ⟨T, rfl⟩
    · exact wpAny_bind (wpAny_field hz rfl (x := .none) rfl (wpAny_pure (.inl ⟨rfl, rfl⟩)))
    · refine wpAny_bind (wpAny_field hz rfl (x := rawInt T) rfl ?_)
      show wpAny _ _ (loadIfAlive ((T : Int).toNat) >>= _) _ _ _
      rw [Int.toNat_natCast]
      refine wpAny_bind ?_
      cases hT : s.heap.get? T with
      | none =>
        refine alive ?_
        rw [hT]
        simp only [Option.isNone_none, if_true]
        exact wpAny_pure (.inl ⟨rfl, rfl⟩)
      | some oT =>
        refine alive ?_
        rw [hT]
        simp only [Option.isNone_some, Bool.false_eq_true, if_false]
        refine wpAny_bind (wpAny_field hz rfl (x := .bool f) rfl ?_)
        cases f with
        | true =>
          rw [if_neg (show ¬ ((Value.bool true != Value.bool true) = true) from Bool.false_ne_true)]
          exact wpAny_pure (.inr ⟨rfl, s.heap, true, rfl, Heap.SameBut.refl _ _, hz⟩)
        | false =>
          rw [if_pos (show (Value.bool false != Value.bool true) = true from rfl)]
          exact wpAny_bind (wpAny_setField_rec hz (by simp) fun h₁ hz₁ hs₁ => wpAny_pure (.inr ⟨rfl, h₁, true, rfl, hs₁, hz₁⟩))
  rintro b s1 (⟨rfl, rfl⟩ | ⟨rfl, h₀, f', rfl, hs₀, hz₀⟩)
  · simp only [if_true]
    refine wpAny_bind (wpAny_rule ?_)
    refine wpAny_bind (wpAny_field hz rfl (x := .ref (n0 + ls.length + 1)) rfl ?_)
    refine wpAny_bind (wpAny_setField_rec hz (by simp) fun h₁ hz₁ hs₁ => ?_)
    refine wpAny_bind ?_
    have F0 : HS n0 ls i .ellipsis f s1.heap 0 h₁ := by
      refine ⟨hs₁.1, fun c hc => hs₁.2 c (nn (by unfold Out at hc; omega)), hz₁, ?_, ⟨vs, hvl, ?_⟩, fun j l hj => ?_⟩
      · rw [hs₁.2 _ (nn (by omega))]; exact hTI
      · rw [hs₁.2 _ (nn (by omega))]; exact hTO
      · have hjl : j < ls.length := (List.getElem?_eq_some_iff.mp hj).1
        rw [if_neg (Nat.not_lt_zero _)]
        exact iter_of (hits j l hj) (hs₁.2 _ (nn (by omega)))
    refine wpAny_forIn_list _ (fun rest b s' => ∃ k h, b = (none, ()) ∧ rest = (((List.range ls.length).map fun j => Value.ref (n0 + j)).zipIdx).drop k ∧ k ≤ jm ∧ s' = { s1 with heap := h } ∧ HS n0 ls i .ellipsis f s1.heap k h) _ ?_ ?_ _ _ ⟨0, h₁, rfl, rfl, Nat.zero_le _, rfl, F0⟩
    · rintro x rest b _ ⟨k, h, rfl, hrest, hk, rfl, F⟩
      obtain ⟨hx, hr⟩ := drop_cons hrest
      obtain ⟨hkl, rfl⟩ := zi_at hx
      obtain ⟨l, hll⟩ : ∃ l, ls[k]? = some l := ⟨_, List.getElem?_eq_getElem hkl⟩
      obtain ⟨xs, hxs⟩ := hls k l hll
      have lo := low l (List.mem_of_getElem? hll)
      have hit := F.its k l hll
      rw [if_neg (Nat.lt_irrefl _)] at hit
      refine wpAny_bind (wpAny_onRaise ?_)
      show wpAny _ _ (Builtin.SmallTypes.nextOf (.ref (n0 + k)) >>= _) _ _ _
      cases hxi : xs[i]? with
      | none =>
        refine wpAny_bind (wpAny_nextOf_list_end hh hit (list_of hxs (F.out l (.inl lo))) hxi fun h₂ e hs₂ he => ?_)
        obtain ⟨oe, hoe, hce⟩ := he
        have hz₂ := hs₂ _ _ (nn (show n0 + ls.length + 2 ≠ n0 + k by omega)) F.z
        have hez : e ≠ (n0 + ls.length + 2 : Nat) := fun x => by subst x; rw [hz₂] at hoe; cases hoe; simp at hce
        refine wpAny_setField_rec (s := { s1 with heap := h₂ }) hz₂ (by simp) fun h₃ _ hs₃ => hE h₃ e (fun c hc o q => ?_) ⟨oe, hs₃.extBut _ _ hez hoe, hce⟩
        have hc' := hc
        unfold Out at hc
        exact hs₃.extBut _ _ (nn (by omega)) (hs₂ _ _ (nn (by omega)) (by rw [F.out c hc']; exact q))
      | some u =>
        refine wpAny_bind (wpAny_nextOf_list_item hit (list_of hxs (F.out l (.inl lo))) hxi fun h₂ h2i hs₂ => wpAny_pure ?_)
        obtain ⟨vs', hvl', hto'⟩ := F.to
        have hto2 : h₂.get? (n0 + ls.length + 1) = some { cls := .type "tuple", data := .seq vs'.toArray } := by rw [hs₂.2 _ (nn (by omega))]; exact hto'
        refine wpAny_bind (wpAny_seqItems hto2 rfl ?_)
        refine wpAny_bind (wpAny_updateSeq hto2 rfl ?_ (by simp [hvl']; show _ ≤ sizeLine; unfold sizeLine; omega) (by simp [hvl']; show _ ≤ sizeLine + 1; unfold sizeLine; omega))
        refine wpAny_bind (wpAny_letGo (wpAny_pure ?_))
        have hkj : k ≠ jm := by
          rintro rfl
          rw [hll] at hjm
          cases hjm
          rw [hnone xs hxs] at hxi
          cases hxi
        refine ⟨k + 1, _, rfl, hr, by omega, rfl, F.step2 (vs := vs'.set k u) hkl hll h2i hs₂ (Heap.SameBut.update ..) (by rw [List.length_set, hvl']) ?_⟩
        rw [Heap.get?_update_self _ hto2 rfl]
        simp [Obj.mapSeq]
    · rintro b _ ⟨k, h, rfl, hrest, hk, rfl, F⟩
      have := congrArg List.length hrest
      simp at this
      omega
  · simp only [Bool.false_eq_true, if_false]
    refine wpAny_bind ?_
    have F0 : HS n0 ls i x0 f' s.heap 0 h₀ := by
      refine ⟨hs₀.1, fun c hc => hs₀.2 c (nn (by unfold Out at hc; omega)), hz₀, ?_, ⟨vs, hvl, ?_⟩, fun j l hj => ?_⟩
      · rw [hs₀.2 _ (nn (by omega))]; exact hTI
      · rw [hs₀.2 _ (nn (by omega))]; exact hTO
      · have hjl : j < ls.length := (List.getElem?_eq_some_iff.mp hj).1
        rw [if_neg (Nat.not_lt_zero _)]
        exact iter_of (hits j l hj) (hs₀.2 _ (nn (by omega)))
    rw [← Array.forIn_toList]
    refine wpAny_forIn_list _ (fun rest b s' => ∃ k h, b.1 = none ∧ rest = ((List.range ls.length).map fun j => Value.ref (n0 + j)).drop k ∧ k ≤ jm ∧ s' = { s with heap := h } ∧ HS n0 ls i x0 f' s.heap k h) _ ?_ ?_ _ _ ⟨0, h₀, rfl, by simp, Nat.zero_le _, rfl, F0⟩
    · rintro x rest b _ ⟨k, h, hb1, hrest, hk, rfl, F⟩
      obtain ⟨hx, hr⟩ := drop_cons hrest
      obtain ⟨hkl, rfl⟩ := it_at hx
      obtain ⟨l, hll⟩ : ∃ l, ls[k]? = some l := ⟨_, List.getElem?_eq_getElem hkl⟩
      obtain ⟨xs, hxs⟩ := hls k l hll
      have lo := low l (List.mem_of_getElem? hll)
      have hit := F.its k l hll
      rw [if_neg (Nat.lt_irrefl _)] at hit
      refine wpAny_bind (wpAny_holding ?_)
      show wpAny _ _ (Builtin.SmallTypes.nextOf (.ref (n0 + k)) >>= _) _ _ _
      cases hxi : xs[i]? with
      | none =>
        refine wpAny_bind (wpAny_nextOf_list_end hh hit (list_of hxs (F.out l (.inl lo))) hxi fun h₂ e hs₂ he => ?_)
        refine hE h₂ e (fun c hc o q => ?_) he
        have hc' := hc
        unfold Out at hc
        exact hs₂ _ _ (nn (by omega)) (by rw [F.out c hc']; exact q)
      | some u =>
        refine wpAny_bind (wpAny_nextOf_list_item hit (list_of hxs (F.out l (.inl lo))) hxi fun h₂ h2i hs₂ => wpAny_pure ?_)
        have hkj : k ≠ jm := by
          rintro rfl
          rw [hll] at hjm
          cases hjm
          rw [hnone xs hxs] at hxi
          cases hxi
        exact wpAny_pure ⟨k + 1, h₂, rfl, hr, by omega, rfl, F.step hkl hll h2i hs₂⟩
    · rintro b _ ⟨k, h, hb1, hrest, hk, rfl, F⟩
      have := congrArg List.length hrest
      simp at this
      omega
end
section
theorem typeCall_4 : ∀ vs : List Value, vs.length = 4 → checkTypeCall "zip" ⟨vs, []⟩ = pure ()
  | [a, b, c, d], _ => by kernel_rfl
theorem typeCall_6 : ∀ vs : List Value, vs.length = 6 → checkTypeCall "zip" ⟨vs, []⟩ = pure ()
  | [a, b, c, d, e, f], _ => by kernel_rfl
theorem typeCall_8 : ∀ vs : List Value, vs.length = 8 → checkTypeCall "zip" ⟨vs, []⟩ = pure ()
  | [a, b, c, d, e, f, g, h], _ => by kernel_rfl
theorem newCall_4 : ∀ vs : List Value, vs.length = 4 → checkBuiltinCall "zip.__new__" ⟨.type "zip" :: vs, []⟩ = pure ()
  | [a, b, c, d], _ => by kernel_rfl
theorem newCall_6 : ∀ vs : List Value, vs.length = 6 → checkBuiltinCall "zip.__new__" ⟨.type "zip" :: vs, []⟩ = pure ()
  | [a, b, c, d, e, f], _ => by kernel_rfl
theorem newCall_8 : ∀ vs : List Value, vs.length = 8 → checkBuiltinCall "zip.__new__" ⟨.type "zip" :: vs, []⟩ = pure ()
  | [a, b, c, d, e, f, g, h], _ => by kernel_rfl
theorem init_4 (o : Value) : ∀ vs : List Value, vs.length = 4 → argsOk "object.__init__" ⟨o :: vs, []⟩
  | [a, b, c, d], _ => by
    unfold argsOk; rw [signature?_of (id := "object.__init__") (n := ['_', '_', 't', 'i', 'n', 'i', '_', '_']) (o := ['t', 'c', 'e', 'j', 'b', 'o']) (by kernel_rfl) F.owner_object]; kernel_rfl
theorem init_6 (o : Value) : ∀ vs : List Value, vs.length = 6 → argsOk "object.__init__" ⟨o :: vs, []⟩
  | [a, b, c, d, e, f], _ => by
    unfold argsOk; rw [signature?_of (id := "object.__init__") (n := ['_', '_', 't', 'i', 'n', 'i', '_', '_']) (o := ['t', 'c', 'e', 'j', 'b', 'o']) (by kernel_rfl) F.owner_object]; kernel_rfl
theorem init_8 (o : Value) : ∀ vs : List Value, vs.length = 8 → argsOk "object.__init__" ⟨o :: vs, []⟩
  | [a, b, c, d, e, f, g, h], _ => by
    unfold argsOk; rw [signature?_of (id := "object.__init__") (n := ['_', '_', 't', 'i', 'n', 'i', '_', '_']) (o := ['t', 'c', 'e', 'j', 'b', 'o']) (by kernel_rfl) F.owner_object]; kernel_rfl
end
end Vz
namespace Vz
open PySem PySem.Spec PyProof.Rows L2
section
variable {prog : Program} {w : World} {A : Around} {E : Value → Shared → Prop} {s : Shared}
/-- the iterators of the lists, one after the other -/
theorem iterAll_lists (ls : List Addr) (hl : ∀ l ∈ ls, ∃ xs : Array Value, s.heap.IsList l xs) :
    wpAny (model prog w) A (Builtin.SmallTypes.iterAll (ls.map Value.ref)) (fun its s' => its = (List.range ls.length).map (fun j => Value.ref (s.heap.objs.size + j)) ∧ ∃ h1, s' = { s with heap := h1 } ∧ h1.objs.size = s.heap.objs.size + ls.length ∧
      (∀ c o, s.heap.get? c = some o → h1.get? c = some o) ∧ ∀ (j : Nat) (l : Addr), ls[j]? = some l → h1.IsListIter ((s.heap.objs.size + j : Nat)) l 0) (fun _ _ => False) s := by
  unfold Builtin.SmallTypes.iterAll
  refine wpAny_bind ?_
  refine wpAny_forIn_list _ (fun rest b s' => ∃ k h1, b = ((List.range k).map (fun j => Value.ref (s.heap.objs.size + j))).toArray ∧ rest = (ls.map Value.ref).drop k ∧ k ≤ ls.length ∧ s' = { s with heap := h1 } ∧ h1.objs.size = s.heap.objs.size + k ∧ (∀ c o, s.heap.get? c = some o → h1.get? c = some o) ∧ ∀ (j : Nat) (l : Addr), j < k → ls[j]? = some l → h1.IsListIter ((s.heap.objs.size + j : Nat)) l 0) _ ?_ ?_ _ _ ⟨0, s.heap, rfl, rfl, Nat.zero_le _, rfl, rfl, fun _ _ q => q, fun j l hj => absurd hj (Nat.not_lt_zero _)⟩
  · rintro x rest b _ ⟨k, h1, rfl, hrest, hk, rfl, hsz, hkp, hit⟩
    obtain ⟨hx, hr⟩ := drop_cons hrest
    rw [List.getElem?_map] at hx
    have hkl : k < ls.length := by
      by_cases q : k < ls.length
      · exact q
      · rw [List.getElem?_eq_none (by omega)] at hx; cases hx
    rw [List.getElem?_eq_getElem hkl] at hx
    obtain rfl : Value.ref ls[k] = x := by simpa using hx
    obtain ⟨xs, hxs⟩ := hl ls[k] (List.getElem_mem hkl)
    refine wpAny_bind (wpAny_holding ?_)
    refine wpAny_pyIter_list (s := { s with heap := h1 }) (hxs.at fun o q => hkp _ _ q) ?_
    refine wpAny_pure ⟨k + 1, _, ?_, hr, hkl, rfl, ?_, fun c o q => Heap.get?_push_of_some _ (hkp c o q), fun j l hj hjl => ?_⟩
    · rw [List.range_succ, List.map_append, hsz]
      simp
    · rw [Heap.size_push, hsz]; rfl
    · by_cases e : j = k
      · subst e
        rw [List.getElem?_eq_getElem hkl] at hjl
        cases hjl
        exact ⟨_, by rw [← hsz]; exact Heap.get?_push_size _ rfl, rfl, rfl⟩
      · exact (hit j l (by omega) hjl).at fun o q => Heap.get?_push_of_some _ q
  · rintro b _ ⟨k, h1, rfl, hrest, hk, rfl, hsz, hkp, hit⟩
    have hkn : k = ls.length := by
      have := congrArg List.length hrest
      simp at this
      omega
    subst hkn
    exact wpAny_pure ⟨by simp, h1, rfl, hsz, hkp, fun j l hj => hit j l (List.getElem?_eq_some_iff.mp hj).1 hj⟩
theorem zip_new_N (ls : List Addr) (hn : ls.length ≤ 1000000) : Meets (Builtin.«zip.__new__» ⟨.type "zip" :: ls.map Value.ref, []⟩) (fun _ R s => (∀ l ∈ ls, ∃ xs : Array Value, s.heap.IsList l xs) ∧
      ∀ h', ZS s.heap.objs.size ls 0 h' → (∀ c o, s.heap.get? c = some o → h'.get? c = some o) → R (.ok (.ret (.ref (s.heap.objs.size + ls.length + 2)))) { s with heap := h' }) :=
  .of_wp fun prog w A R s hh => by
    obtain ⟨hl, h⟩ := hh
    have hsub := sub_zip
    unfold Builtin.«zip.__new__»
    refine wpAny_bind ?_
    have hc : wpAny (model prog w) A.in1 (Builtin.SmallTypes.newClass "zip" ⟨.type "zip" :: ls.map Value.ref, []⟩) (fun r s' => r = (.type "zip", ls.map Value.ref) ∧ s' = s) (fun e s' => R (.error e) s') s := by
      unfold Builtin.SmallTypes.newClass
      repeat (any_goals (first | assumption | wp_step))
      exact ⟨rfl, rfl⟩
    refine wpAny_mono hc ?_ (fun _ _ z => z)
    rintro r s' ⟨rfl, rfl⟩
    show wpAny _ _ (Builtin.SmallTypes.iterAll (ls.map Value.ref) >>= fun its => newTuple its >>= fun t1 => newTuple (its.map fun _ => .none) >>= fun t2 => Builtin.SmallTypes.newRecord (.type "zip") (Builtin.SmallTypes.ownedTupleFields ++ [Value.bool false, t1, t2]) >>= fun r => ret r) _ _ _
    refine wpAny_bind ?_
    refine wpAny_mono (iterAll_lists ls hl) ?_ (fun _ _ z => z.elim)
    rintro its _ ⟨rfl, h1, rfl, hsz, hk, hit⟩
    refine wpAny_bind (wpAny_newTuple ?_ (by simp; unfold sizeLine; omega))
    refine wpAny_bind (wpAny_newTuple ?_ (by simp; unfold sizeLine; omega))
    refine wpAny_bind ?_
    unfold Builtin.SmallTypes.newRecord
    refine wpAny_newObj_type ?_ (by first | trivial | (simp only [sizeOk]; decide) | (simp [sizeOk]; decide))
    refine wpAny_pure ⟨_, rfl, ?_⟩
    generalize pA : h1.push { cls := .type "tuple", data := .seq ((List.range ls.length).map fun j => Value.ref (s'.heap.objs.size + j)).toArray } = hA
    have eA : hA.objs.size = s'.heap.objs.size + ls.length + 1 := by rw [← pA, Heap.size_push, hsz]
    have gA : hA.get? (s'.heap.objs.size + ls.length) = some { cls := .type "tuple", data := .seq ((List.range ls.length).map fun j => Value.ref (s'.heap.objs.size + j)).toArray } := by
      rw [← pA, ← hsz]; exact Heap.get?_push_size _ rfl
    have kA : ∀ c o, h1.get? c = some o → hA.get? c = some o := fun c o q => by rw [← pA]; exact Heap.get?_push_of_some _ q
    simp only [hsz, eA]
    generalize pB : hA.push { cls := .type "tuple", data := .seq (((List.range ls.length).map fun j => Value.ref (s'.heap.objs.size + j)).map fun _ => Value.none).toArray } = hB
    have eB : hB.objs.size = s'.heap.objs.size + ls.length + 2 := by rw [← pB, Heap.size_push, eA]
    have gB : hB.get? (s'.heap.objs.size + ls.length + 1) = some { cls := .type "tuple", data := .seq (((List.range ls.length).map fun j => Value.ref (s'.heap.objs.size + j)).map fun _ => Value.none).toArray } := by
      rw [← pB, ← eA]; exact Heap.get?_push_size _ rfl
    have kB : ∀ c o, hA.get? c = some o → hB.get? c = some o := fun c o q => by rw [← pB]; exact Heap.get?_push_of_some _ q
    simp only [eB]
    generalize pC : hB.push _ = hC
    have gC : hC.get? (s'.heap.objs.size + ls.length + 2) = some { cls := .type "zip", dict := none, data := .fields #[.none, .bool false, .bool false, .ref (s'.heap.objs.size + ls.length), .ref (s'.heap.objs.size + ls.length + 1)], slots := #[] } := by rw [← pC, ← eB]; exact Heap.get?_push_size _ rfl
    have kC : ∀ c o, hB.get? c = some o → hC.get? c = some o := fun c o q => by rw [← pC]; exact Heap.get?_push_of_some _ q
    refine h hC ⟨⟨.none, false, .inl rfl, gC⟩, kC _ _ (kB _ _ gA), ⟨_, by simp, kC _ _ gB⟩, fun j l hj => (hit j l hj).at fun o q => kC _ _ (kB _ _ (kA _ _ q))⟩ fun c o q => kC _ _ (kB _ _ (kA _ _ (hk c o q)))
theorem call_zipN {ls : List Addr} {Q : Value → Shared → Prop} (hn : ls.length = 4 ∨ ls.length = 6 ∨ ls.length = 8) (hl : ∀ l ∈ ls, ∃ xs : Array Value, s.heap.IsList l xs)
    (h : ∀ h', ZS s.heap.objs.size ls 0 h' → (∀ c o, s.heap.get? c = some o → h'.get? c = some o) → Q (.ref (s.heap.objs.size + ls.length + 2)) { s with heap := h' }) :
    wpAny (model prog w) A (call (.type "zip") (ls.map Value.ref)) Q E s := by
  have hct : checkTypeCall "zip" ⟨ls.map Value.ref, []⟩ = pure () := by
    rcases hn with q | q | q
    · exact typeCall_4 _ (by simpa using q)
    · exact typeCall_6 _ (by simpa using q)
    · exact typeCall_8 _ (by simpa using q)
  have hcn : checkBuiltinCall "zip.__new__" ⟨.type "zip" :: ls.map Value.ref, []⟩ = pure () := by
    rcases hn with q | q | q
    · exact newCall_4 _ (by simpa using q)
    · exact newCall_6 _ (by simpa using q)
    · exact newCall_8 _ (by simpa using q)
  have hin : ∀ obj, argsOk "object.__init__" ⟨obj :: ls.map Value.ref, []⟩ := by
    intro obj
    rcases hn with q | q | q
    · exact init_4 _ _ (by simpa using q)
    · exact init_6 _ _ (by simpa using q)
    · exact init_8 _ _ (by simpa using q)
  refine callType_newIn F.called_zip (by decide) hct hcn hin F.entry_zip_new ((zip_new_N ls (by omega)).inModel prog w) ⟨hl, fun h' hz hk => ?_⟩
  exact ⟨by obtain ⟨x0, f, _, q⟩ := hz.z; exact ⟨_, q, rfl⟩, h h' hz hk⟩
theorem pyNext_item {n0 : Nat} {ls : List Addr} {us : List Value} {i : Nat} {Q : Option Value → Shared → Prop} (hne : ls ≠ []) (hsz : ls.length ≤ 1000000) (st : ZS n0 ls i s.heap) (hl : us.length = ls.length) (low : ∀ l ∈ ls, (l : Nat) < n0)
    (hi : Has s.heap ls i us)
    (hQ : ∀ h', ZS n0 ls (i + 1) h' → h'.get? s.heap.objs.size = some { cls := .type "tuple", data := .seq us.toArray } → h'.objs.size = s.heap.objs.size + 1 →
      (∀ c : Nat, Out n0 ls.length c → ∀ o, s.heap.get? c = some o → h'.get? c = some o) → Q (some (.ref s.heap.objs.size)) { s with heap := h' }) :
    wpAny (model prog w) A (pyNext (.ref (n0 + ls.length + 2))) Q E s := by
  have hT : s.TypeIs (.ref (n0 + ls.length + 2)) "zip" := by obtain ⟨x0, f, _, q⟩ := st.z; exact ⟨_, q, rfl⟩
  unfold pyNext
  exact wpAny_bind (wpAny_attempt (wpAny_callSpecial?_slot (name := Str.ofString "__next__") hT F.slot_zip_next
    (wpAny_call_entry F.slot_zip_next hT F.entry_zip_next
      (next_item hne hsz st hl low hi fun h' a1 a2 a3 a4 => wpAny_pure (hQ h' a1 a2 a3 a4)) (F.args_zip_next_1 _))))
theorem pyNext_end {n0 : Nat} {ls : List Addr} {i : Nat} {Q : Option Value → Shared → Prop} (hh : A.handled = none) (hsz : ls.length ≤ 1000000) (st : ZS n0 ls i s.heap) (low : ∀ l ∈ ls, (l : Nat) < n0)
    (hls : ∀ (j : Nat) (l : Addr), ls[j]? = some l → ∃ xs : Array Value, s.heap.IsList l xs) (hend : ∃ (j : Nat) (l : Addr), ls[j]? = some l ∧ ∀ xs : Array Value, s.heap.IsList l xs → xs[i]? = none)
    (hQ : ∀ h', (∀ c : Nat, Out n0 ls.length c → ∀ o, s.heap.get? c = some o → h'.get? c = some o) → Q none { s with heap := h' }) :
    wpAny (model prog w) A (pyNext (.ref (n0 + ls.length + 2))) Q E s := by
  have hT : s.TypeIs (.ref (n0 + ls.length + 2)) "zip" := by obtain ⟨x0, f, _, q⟩ := st.z; exact ⟨_, q, rfl⟩
  unfold pyNext
  refine wpAny_bind (wpAny_attempt (wpAny_callSpecial?_slot (name := Str.ofString "__next__") hT F.slot_zip_next
    (wpAny_call_entry F.slot_zip_next hT F.entry_zip_next (next_end hh hsz st low hls hend fun h' e hk he => ?_) (F.args_zip_next_1 _))))
  obtain ⟨o, ho, hc⟩ := he
  refine wpAny_bind (wpAny_isInstance (T := "StopIteration") (b := true) ⟨o, ho, hc⟩ isSubtype_stop ?_)
  exact wpAny_pure (hQ _ hk)
/-- the step ahead of the store: the zip stays one -/
theorem go_zip {n0 : Nat} {ls : List Addr} {i : Nat} {tg : Expr} {T : Addr} {Q : Unit → Shared → Prop} (st : ZS n0 ls i s.heap) (hQ : ∀ h', ZS n0 ls i h' → Heap.SameBut (n0 + ls.length + 2) s.heap h' → Q () { s with heap := h' }) :
    wpAny (model prog w) A (letOwnedTupleGo tg (.ref (n0 + ls.length + 2)) (.ref T)) Q E s := by
  have same : Q () s := hQ s.heap st (Heap.SameBut.refl _ _)
  obtain ⟨⟨x0, f, hx0, hz⟩, hTI, hTO, hits⟩ := st
  unfold letOwnedTupleGo
  cases tg <;> first
    | exact wpAny_pure same
    | (refine wpAny_bind (wpAny_load hz ?_)
       show wpAny _ _ (if (["enumerate", "zip", "dict_itemiterator", "dict_reverseitemiterator", "odict_iterator", "itertools.zip_longest", "itertools.pairwise"].contains "zip" &&
         (#[x0, .bool f, .bool false, .ref (n0 + ls.length), .ref (n0 + ls.length + 1)] : Array Value)[0]? == some (rawInt T)) = true then _ else _) Q E s
       split
       · refine wpAny_bind (wpAny_rule ?_)
         show wpAny _ _ (setField (.ref (n0 + ls.length + 2)) 0 .none) Q E s
         refine wpAny_setField_rec hz (by simp) fun h' hz' hs' => hQ h' ⟨⟨.none, f, .inl rfl, hz'⟩, ?_, ?_, fun j l hj => ?_⟩ hs'
         · rw [hs'.2 _ (nn (by omega))]; exact hTI
         · obtain ⟨vs, hvl, hTO⟩ := hTO
           exact ⟨vs, hvl, by rw [hs'.2 _ (nn (by omega))]; exact hTO⟩
         · have hjl : j < ls.length := (List.getElem?_eq_some_iff.mp hj).1
           exact iter_of (hits j l hj) (hs'.2 _ (nn (by omega)))
       · exact wpAny_pure same)
end
/-! ### the turn -/
/-- the lists at ls as they stand at each turn, their items in a new tuple -/
def ItzN (K : PySem.W.Frag) (ls : List Addr) : It :=
  ⟨fun i H => ls ≠ [] ∧ ∃ us : List V, us.length = ls.length ∧ ∀ (j : Nat) (l : Addr) (u : V), ls[j]? = some l → us[j]? = some u → ∃ xs : List V, SqL K H l xs ∧ xs[i]? = some u,
    fun i H v H' => ∃ T us, v = .ref T ∧ H T = none ∧ H' = upd H T (.tup us) ∧ us.length = ls.length ∧ ∀ (j : Nat) (l : Addr), ls[j]? = some l → ∀ xs, SqL K H l xs → xs[i]? = us[j]?,
    fun i H => (∀ l ∈ ls, ∃ xs : List V, SqL K H l xs) ∧ ∃ l ∈ ls, ∃ xs : List V, SqL K H l xs ∧ xs.length ≤ i⟩
theorem has_vals {X : Cx} {pins : List (Addr × Obj)} {σ : L2.St} {H : Hp} {s : Shared} {i : Nat} (I : Inv X pins σ H s) : ∀ (ls : List Addr) (us : List V), us.length = ls.length → (∀ (j : Nat) (l : Addr) (u : V), ls[j]? = some l → us[j]? = some u → ∃ xs : List V, SqL X.K H l xs ∧ xs[i]? = some u) →
    ∃ ws : List Value, Vals us ws ∧ Has s.heap ls i ws
  | [], [], _, _ => ⟨[], .nil, fun j l u h => by simp at h⟩
  | [], u :: us, h, _ => by simp at h
  | l :: ls, [], h, _ => by simp at h
  | l :: ls, u :: us, hl, h => by
    obtain ⟨ws, hv, hh⟩ := has_vals I ls us (by simpa using hl) fun j l' u' h1 h2 => h (j + 1) l' u' (by simpa using h1) (by simpa using h2)
    obtain ⟨xs, q, hx⟩ := h 0 l u rfl rfl
    obtain ⟨its, rv, p, _⟩ := I.list q
    obtain ⟨w1, hw, rw1⟩ := rv.get hx
    refine ⟨w1 :: ws, .cons rw1 hv, fun j l' u' h1 h2 => ?_⟩
    cases j with
    | zero =>
      simp at h1 h2
      subst h1 h2
      exact ⟨_, p.isList, by simpa using hw⟩
    | succ j => exact hh j l' u' (by simpa using h1) (by simpa using h2)
def fpN (n0 n : Nat) : List Addr := (List.range (n + 3)).map (n0 + ·)
theorem mem_fpN {n0 n c : Nat} : c ∈ fpN n0 n ↔ ¬ Out n0 n c := by
  unfold fpN Out
  simp only [List.mem_map, List.mem_range]
  constructor
  · rintro ⟨j, hj, rfl⟩; omega
  · intro h; exact ⟨c - n0, by omega, by omega⟩
theorem turn_zipN {P : Program} {w : World} {K : PySem.W.Frag} {tg : Expr} {n0 : Nat} {ls : List Addr} (hsz : ls.length ≤ 1000000) (low : ∀ l ∈ ls, (l : Nat) < n0) :
    Turn P w K tg (ItzN K ls) (fpN n0 ls.length) (n0 + ls.length + 2 : Nat) (fun i h => ZS n0 ls i h) where
  mem := mem_fpN.mpr (by unfold Out; omega)
  obj := fun i h st c0 hc => by
    obtain ⟨c, rfl⟩ : ∃ c : Nat, c = c0 := ⟨c0, rfl⟩
    have hc := mem_fpN.mp hc
    obtain ⟨⟨x0, f, hx0, hz⟩, hTI, ⟨vs, hvl, hTO⟩, hits⟩ := st
    have h4 : (c : Nat) = n0 + ls.length + 2 ∨ (c : Nat) = n0 + ls.length ∨ (c : Nat) = n0 + ls.length + 1 ∨ ∃ j, j < ls.length ∧ (c : Nat) = n0 + j := by
      unfold Out at hc
      by_cases h1 : (c : Nat) < n0 + ls.length
      · exact .inr (.inr (.inr ⟨(c : Nat) - n0, by omega, by omega⟩))
      · omega
    rcases h4 with rfl | rfl | rfl | ⟨j, hj, rfl⟩
    · exact ⟨_, hz, fun v q => nomatch q⟩
    · exact ⟨_, hTI, fun v q => nomatch q⟩
    · exact ⟨_, hTO, fun v q => nomatch q⟩
    · obtain ⟨o1, e1, _, d1⟩ := hits j ls[j] (List.getElem?_eq_getElem hj)
      exact ⟨o1, e1, fun v q => by rw [d1] at q; cases q⟩
  keep := fun i h h' st k => by
    obtain ⟨⟨x0, f, hx0, hz⟩, hTI, ⟨vs, hvl, hTO⟩, hits⟩ := st
    refine ⟨⟨x0, f, hx0, k _ (mem_fpN.mpr (by unfold Out; omega)) _ hz⟩, k _ (mem_fpN.mpr (by unfold Out; omega)) _ hTI, ⟨vs, hvl, k _ (mem_fpN.mpr (by unfold Out; omega)) _ hTO⟩, fun j l hj => ?_⟩
    have hjl : j < ls.length := (List.getElem?_eq_some_iff.mp hj).1
    exact (hits j l hj).at fun o q => k _ (mem_fpN.mpr (by unfold Out; omega)) o q
  item := by
    intro X hP hw hK hc i pins s σ H E I hf st hg
    subst hP hw hK
    obtain ⟨hne, us, hul, hus⟩ := hg
    obtain ⟨ws, rws, has⟩ := has_vals I ls us hul hus
    have hwl : ws.length = ls.length := by rw [← rws.length]; exact hul
    have hb : s.heap.objs.size > n0 + ls.length + 2 := by obtain ⟨x0, f, _, q⟩ := st.z; exact Heap.lt_size q
    refine pyNext_item hne hsz st hwl low has fun h' st' hT hsz' hk => ?_
    refine ⟨_, rfl, go_zip (s := { s with heap := h' }) st' fun h'' st'' sb => ?_⟩
    have hT2 : h''.get? s.heap.objs.size = some { cls := .type "tuple", data := .seq ws.toArray } := (sb.2 _ (nn (by omega))).trans hT
    have new : ObjOk X.prog X.w (upd H s.heap.objs.size (.tup us)) h'' s.heap.objs.size (.tup us) :=
      ⟨by rw [hul]; unfold sizeLine; omega, ws, rws, ⟨_, hT2, rfl, _, rfl⟩⟩
    have I1 : Inv X pins σ (upd H s.heap.objs.size (.tup us)) { s with heap := h'' } :=
      I.turnedNew (t' := s.toks) (ch := fpN n0 ls.length) (fun c0 o hb' q => by
        obtain ⟨c, rfl⟩ : ∃ c : Nat, c = c0 := ⟨c0, rfl⟩
        have hc' : Out n0 ls.length c := Classical.byContradiction fun z => hb' (mem_fpN.mpr z)
        have hc2 := hc'
        unfold Out at hc2
        exact (sb.2 c (nn (by omega))).trans (hk c hc' o q)) hf (Nat.le_refl _) new
    refine ⟨.ref s.heap.objs.size, _, I1, rfl, ⟨_, us, rfl, I.hok.fresh (Nat.le_refl _), rfl, hul, fun j l hj xs hq => ?_⟩, st'', fun c0 hcm => ?_⟩
    · have hjl : j < ls.length := (List.getElem?_eq_some_iff.mp hj).1
      obtain ⟨u, hu⟩ : ∃ u, us[j]? = some u := ⟨_, List.getElem?_eq_getElem (by omega)⟩
      obtain ⟨ys, q', hy⟩ := hus j l u hj hu
      rw [I.list_inj hq q', hy, hu]
    · obtain ⟨c, rfl⟩ : ∃ c : Nat, c = c0 := ⟨c0, rfl⟩
      have hc := mem_fpN.mp hcm
      have hlt : (c : Nat) < s.heap.objs.size := by unfold Out at hc; omega
      rw [upd_ne (Nat.ne_of_lt hlt)]
      exact (hf c hcm).1
  done := by
    intro X hP hw hK hc i pins s σ H E I hf st hg
    subst hP hw hK
    obtain ⟨hall, l0, hl0, xs0, q0, hle⟩ := hg
    refine pyNext_end (I.ok.hd hc) hsz st low (fun j l hj => ?_) ?_ fun h' hk => ⟨rfl, I.turnedL (t' := s.toks) (ch := fpN n0 ls.length) (fun c o hb' q => hk c (Classical.byContradiction fun z => hb' (mem_fpN.mpr z)) o q) hf⟩
    · obtain ⟨xs, q⟩ := hall l (List.mem_of_getElem? hj)
      obtain ⟨its, rv, p, _⟩ := I.list q
      exact ⟨_, p.isList⟩
    · obtain ⟨j, hj⟩ := List.getElem?_of_mem hl0
      refine ⟨j, l0, hj, fun xs hxs => ?_⟩
      obtain ⟨its, rv, p, _⟩ := I.list q0
      have l1 := rv.length
      have e : xs = its.toArray := by
        obtain ⟨o1, h1, c1, n1, d1⟩ := hxs
        obtain ⟨o2, h2, c2, n2, d2⟩ := p.isList
        rw [h1] at h2
        cases h2
        rw [d1] at d2
        cases d2
        rfl
      subst e
      simp
      omega
  self := fun A i s Q E st h => by
    obtain ⟨x0, f, _, q⟩ := st.z
    have hT : s.TypeIs (.ref (n0 + ls.length + 2 : Nat)) "zip" := ⟨_, q, rfl⟩
    refine wpAny_pyIter_slot hT F.slot_zip_iter (wpAny_call_entry F.slot_zip_iter hT F.entry_zip_iter ?_ (F.args_zip_iter_1 _))
    show wpAny _ _ (ret (.ref _)) _ _ s
    exact wpAny_pure ⟨_, rfl, "zip", _, hT, F.slot_zip_next.lookup, h⟩
theorem callWith_typeS {M : Model} {A : Around} {E : Value → Shared → Prop} {s : Shared} {pos p : Pos} {T : String} {env : Env} {e : Expr} {Q : Value → Shared → Prop}
    (h : wpAny M A (eval e env) (fun v s₁ => PySem.W.StarOf M A E v (fun vs s₂ => wpAny M A (call (.type T) vs) Q E s₂) s₁) E s) (he : starEach [.Starred e p] env = [(true, eval e env)] := by rfl) :
    wpAny M A (callWith pos (.type T) [] (backTo pos (starEach [.Starred e p] env)) []) Q E s := by
  rw [he]
  have h2 := PySem.W.ks_lone (f := .type T) (pos := pos) (Q := fun a s₂ => wpAny M A (call (.type T) a.pos a.kw) Q E s₂) h
  unfold callWith
  refine wpAny_bind (wpAny_holding (wpAny_mono h2 (fun a s₁ h₁ => wpAny_bind (wpAny_standAt ?_)) fun _ _ x => x))
  refine wpAny_bind (wpAny_pure ?_)
  refine wpAny_bind ?_
  refine wpAny_mono (PySem.wpAny_operating h₁) (fun r s₂ hr => wpAny_bind (wpAny_holding (wpAny_point (wpAny_pure hr)))) fun _ _ x => x
def iZipN (K : PySem.W.Frag) (te : TE) : TI := fun σ H R => te σ H fun v H1 => ∃ (a : Addr) (ls : List Addr), v = V.ref a ∧ SqL K H1 a (ls.map V.ref) ∧ (ls.length = 4 ∨ ls.length = 6 ∨ ls.length = 8) ∧ (∀ l ∈ ls, ∃ xs : List V, SqL K H1 l xs) ∧ R (ItzN K ls) H1
theorem vals_refs : ∀ {ls : List Addr} {us : List Value}, Vals (ls.map V.ref) us → us = ls.map Value.ref
  | [], _, h => by cases h; rfl
  | l :: ls, _, h => by
    cases h with
    | cons a r => rw [vals_refs r]; cases a; rfl
theorem pi_zipN {X : Cx} {K : PySem.W.Frag} {e tg : Expr} {te : TE} {p sp_ pos : Pos} (hg : Gl X "zip") (hm : X.mg "zip" = none) (he : PE X e te) (hK : X.K = K := by rfl) (hst : starEach [.Starred e sp_] X.env = [(true, eval e X.env)] := by rfl) :
    PI X tg (.Call (.Name "zip" p) [.Starred e sp_] [] pos) (iZipN K te) := by
  subst hK
  refine ⟨fun pins s σ H R I h => ?_⟩
  refine Call_ (ld_blt I hg hm PyProof.Rows.boot_zip (callWith_typeS (thn (he.run pins s σ H _ I h) fun v s1 ⟨y, H1, I1, ry, a, ls, ey, hx, hn, hls, q⟩ => ?_) hst))
  subst ey
  obtain rfl : v = Value.ref a := ry
  refine StX.star_any I1 (.inr hx) fun us s2 I2 rv => ?_
  obtain rfl := vals_refs rv
  have hlists : ∀ l ∈ ls, ∃ xs : Array Value, s2.heap.IsList l xs := fun l hl => by
    obtain ⟨xs, q⟩ := hls l hl
    obtain ⟨its, rv, pl, _⟩ := I2.list q
    exact ⟨_, pl.isList⟩
  have hlow : ∀ l ∈ ls, (l : Nat) < s2.heap.objs.size := fun l hl => by
    obtain ⟨xs, q⟩ := hls l hl
    obtain ⟨its, rv, pl, _⟩ := I2.list q
    exact pl.lt
  refine call_zipN hn hlists fun h' hz hk => ?_
  have I3 : Inv X pins σ H1 { s2 with heap := h' } := I2.kept (t' := s2.toks) hk
  have T := turn_zipN (P := X.prog) (w := X.w) (K := X.K) (tg := tg) (n0 := s2.heap.objs.size) (ls := ls) (by omega) hlow
  refine T.self X.A 0 { s2 with heap := h' } _ _ hz ?_
  refine ⟨_, _, _, _, H1, rfl, I3, T, hz, fun b hb => ?_, q⟩
  have hc := mem_fpN.mp hb
  have hle : s2.heap.objs.size ≤ b := by
    obtain ⟨c, rfl⟩ : ∃ c : Nat, c = b := ⟨b, rfl⟩
    unfold Out at hc
    omega
  exact I2.fpOk hle (I2.hok.fresh hle)
end Vz
namespace Vx
open PySem PySem.Spec PyProof.Rows L2
/-- the length of the shortest row -/
def minLen : List (List Int) → Nat
  | [] => 0
  | [x] => x.length
  | x :: r => min x.length (minLen r)
def colOf (xss : List (List Int)) (i : Nat) : List Int := xss.map fun r => itD r (i : Int)
/-- zip(*rows) -/
def zipRows (xss : List (List Int)) : List (List Int) := (List.range (minLen xss)).map (colOf xss)
theorem minLen_le : ∀ {xss : List (List Int)} {xs : List Int}, xs ∈ xss → minLen xss ≤ xs.length
  | [x], xs, h => by
    simp at h
    subst h
    exact Nat.le_refl _
  | x :: y :: r, xs, h => by
    rcases List.mem_cons.mp h with rfl | h
    · exact Nat.min_le_left _ _
    · exact Nat.le_trans (Nat.min_le_right _ _) (minLen_le h)
theorem minLen_at : ∀ {xss : List (List Int)}, xss ≠ [] → ∃ xs ∈ xss, xs.length = minLen xss
  | [x], _ => ⟨x, List.mem_cons_self, rfl⟩
  | x :: y :: r, _ => by
    obtain ⟨z, hz, e⟩ := minLen_at (xss := y :: r) (by simp)
    by_cases h : x.length ≤ minLen (y :: r)
    · exact ⟨x, List.mem_cons_self, by show _ = min _ _; omega⟩
    · exact ⟨z, List.mem_cons_of_mem _ hz, by show _ = min _ _; omega⟩
theorem zipRows_len (xss : List (List Int)) : (zipRows xss).length = minLen xss := by simp [zipRows]
theorem zipRows_get {xss : List (List Int)} {i : Nat} (h : i < minLen xss) : (zipRows xss)[i]? = some (colOf xss i) := by
  simp [zipRows, List.getElem?_range h]
/-- the rows stand at ls -/
def RowsAt (K : PySem.W.Frag) (H : Hp) (ls : List Addr) (xss : List (List Int)) : Prop :=
  ls.length = xss.length ∧ ∀ (j : Nat) (l : Addr) (xs : List Int), ls[j]? = some l → xss[j]? = some xs → SqL K H l (xs.map V.int)
theorem RowsAt.all {K : PySem.W.Frag} {H : Hp} {ls : List Addr} {xss : List (List Int)} (r : RowsAt K H ls xss) : ∀ l ∈ ls, ∃ xs : List V, SqL K H l xs := fun l hl => by
  obtain ⟨j, hj⟩ := List.getElem?_of_mem hl
  have hjl : j < ls.length := (List.getElem?_eq_some_iff.mp hj).1
  have hjx : j < xss.length := by rw [← r.1]; exact hjl
  exact ⟨_, r.2 j l xss[j] hj (List.getElem?_eq_getElem hjx)⟩
theorem walk_zipN {K : PySem.W.Frag} {ls : List Addr} {xss : List (List Int)} (hne : xss ≠ []) :
    Walk (Vz.ItzN K ls) (minLen xss) (fun H => RowsAt K H ls xss) (fun i H v H' => ∃ T, v = .ref T ∧ H T = none ∧ H' = upd H T (.tup ((colOf xss i).map V.int))) := by
  refine ⟨fun i H hi q => ?_, fun H q => ?_, fun i H x H' hi q y => ?_⟩
  · have hl : ls ≠ [] := fun z => hne (by have := q.1; rw [z] at this; exact List.length_eq_zero_iff.mp this.symm)
    refine ⟨hl, (colOf xss i).map V.int, by simp [colOf, q.1], fun j l u h1 h2 => ?_⟩
    have hj : j < xss.length := by rw [← q.1]; exact (List.getElem?_eq_some_iff.mp h1).1
    have hx : xss[j]? = some xss[j] := List.getElem?_eq_getElem hj
    refine ⟨_, q.2 j l _ h1 hx, ?_⟩
    have hlt : i < xss[j].length := Nat.lt_of_lt_of_le hi (minLen_le (List.getElem_mem hj))
    rw [List.getElem?_map] at h2
    unfold colOf at h2
    rw [List.getElem?_map, hx] at h2
    rw [List.getElem?_map]
    simp at h2
    rw [List.getElem?_eq_getElem hlt, ← h2]
    have : itD xss[j] (i : Int) = xss[j][i] := by
      unfold itD
      rw [atI_nat (List.getElem?_eq_getElem hlt)]
      rfl
    simp [this]
  · refine ⟨q.all, ?_⟩
    obtain ⟨xs, hm, e⟩ := minLen_at hne
    obtain ⟨j, hj⟩ := List.getElem?_of_mem hm
    have hjl : j < ls.length := by rw [q.1]; exact (List.getElem?_eq_some_iff.mp hj).1
    exact ⟨ls[j], List.getElem_mem hjl, _, q.2 j _ xs (List.getElem?_eq_getElem hjl) hj, by simp [e]⟩
  · obtain ⟨T, us, rfl, hT, rfl, hul, hus⟩ := y
    refine ⟨T, rfl, hT, ?_⟩
    congr 2
    apply List.ext_getElem?
    intro j
    by_cases hj : j < xss.length
    · have hjl : j < ls.length := by rw [q.1]; exact hj
      have := hus j ls[j] (List.getElem?_eq_getElem hjl) _ (q.2 j _ xss[j] (List.getElem?_eq_getElem hjl) (List.getElem?_eq_getElem hj))
      rw [← this]
      have hlt : i < xss[j].length := Nat.lt_of_lt_of_le hi (minLen_le (List.getElem_mem hj))
      have hh : itD xss[j] (i : Int) = xss[j][i] := by
        unfold itD
        rw [atI_nat (List.getElem?_eq_getElem hlt)]
        rfl
      unfold colOf
      rw [List.getElem?_map, List.getElem?_eq_getElem hlt, List.getElem?_map, List.getElem?_map, List.getElem?_eq_getElem hj]
      simp [hh]
    · rw [List.getElem?_eq_none (by rw [hul, q.1]; omega), List.getElem?_eq_none (by simp [colOf]; omega)]
/-- rows of data that stays -/
theorem rows_rp {K : PySem.W.Frag} {G H : Hp} (e : Same G H) : ∀ {vs : List V} {xss : List (List Int)}, RpAll G vs (xss.map (encL PyData.int)) → ∃ ls, vs = ls.map V.ref ∧ RowsAt K H ls xss
  | _, [], h => by cases h; exact ⟨[], rfl, rfl, fun j l xs h1 _ => by simp at h1⟩
  | _, xs :: r, h => by
    cases h with
    | cons r1 rr =>
      obtain ⟨ls, rfl, h1, h2⟩ := rows_rp (K := K) e rr
      obtain ⟨a, rfl, ha⟩ := rp_ints r1
      refine ⟨a :: ls, rfl, by simp [h1], fun j l ys q1 q2 => ?_⟩
      cases j with
      | zero =>
        simp at q1 q2
        subst q1 q2
        exact SqL.of (e _ _ ha)
      | succ j => exact h2 j l ys (by simpa using q1) (by simpa using q2)
/-- rows of a tree of one's own -/
theorem rows_ow {K : PySem.W.Frag} {G H : Hp} {L : List Addr} {vs : List V} {xss : List (List Int)} (e : Same G H) (w : OwAll G H L vs (xss.map (oL oI))) : ∃ ls, vs = ls.map V.ref ∧ RowsAt K H ls xss :=
  rows_rp (Same.refl H) (w.rpA (encO_L encO_I) e)
/-- the same rows later -/
theorem RowsAt.again {K : PySem.W.Frag} {H : Hp} {ls : List Addr} {xss : List (List Int)} {vs : List V} (h1 : vs = ls.map V.ref) (h2 : ∃ ls', vs = ls'.map V.ref ∧ RowsAt K H ls' xss) : RowsAt K H ls xss := by
  obtain ⟨ls', e, r⟩ := h2
  have : ls' = ls := by
    have q := h1.symm.trans e
    have inj : ∀ {a b : List Addr}, a.map V.ref = b.map V.ref → a = b := by
      intro a
      induction a with
      | nil => intro b h; cases b with | nil => rfl | cons _ _ => cases h
      | cons x r ih => intro b h; cases b with | nil => cases h | cons y s => simp at h; rw [h.1, ih (by simpa using h.2)]
    exact (inj q).symm
  rw [this] at r
  exact r
/-- a comprehension over zip(*rows) -/
theorem lc_zipN {K : PySem.W.Frag} {ls : List Addr} {xss : List (List Int)} {g : TG} {tt : TT} {te : TE} {vs : List Nat} {σ : L2.St} {H1 : Hp} {D : Addr} {Qd : Hp → Prop} (hne : xss ≠ []) (Pv : Nat → Hp → Prop) (h0 : Pv 0 (upd H1 D (.lst []))) (hq : ∀ i H, i ≤ minLen xss → Pv i H → RowsAt K H ls xss)
    (hs : ∀ (i : Nat) (T : Addr) (H : Hp), i < minLen xss → H T = none → Pv i H → g (.ref T) (wipe σ vs) (upd H T (.tup ((colOf xss i).map V.int))) fun σ2 H2 => wipe σ2 vs = wipe σ vs ∧ tt σ2 H2 fun b H3 =>
      if b = true then te σ2 H3 fun y H4 => ∃ acc, H4 D = some (.lst acc) ∧ acc.length < sizeLine ∧ Pv (i + 1) (upd H4 D (.lst (acc ++ [y]))) else Pv (i + 1) H3) (hd : ∀ H, Pv (minLen xss) H → Qd H) :
    ∃ W : Nat → Nat → Hp → Prop, (∃ m, W 0 m (upd H1 D (.lst []))) ∧ ∀ i m H, W i m H →
      ((Vz.ItzN K ls).stop i H ∧ Qd H) ∨ ((Vz.ItzN K ls).go i H ∧ ∃ Nx : Hp → Prop, (∀ H', Nx H' → ∃ m', m' < m ∧ W (i + 1) m' H') ∧ ∀ x H', (Vz.ItzN K ls).yld i H x H' → g x (wipe σ vs) H' fun σ2 H2 => wipe σ2 vs = wipe σ vs ∧ tt σ2 H2 fun b H3 =>
        if b = true then te σ2 H3 fun y H4 => ∃ acc, H4 D = some (.lst acc) ∧ acc.length < sizeLine ∧ Nx (upd H4 D (.lst (acc ++ [y]))) else Nx H3) := by
  refine lc_it (walk_zipN hne) Pv h0 hq (fun i x H H' hi p y => ?_) hd
  obtain ⟨T, rfl, hT, rfl⟩ := y
  exact hs i T H hi hT p
def rListTK (K : PySem.W.Frag) : List V → Hp → VK → Prop := fun xs H Q => ∃ (p : Addr) (vs : List V), xs = [.ref p] ∧ SqT K H p vs ∧ ∀ l, H l = none → Q (.ref l) (upd H l (.lst vs))
theorem call_listTK {X : Cx} {K : PySem.W.Frag} (hK : X.K = K := by rfl) : CallR X (.type "list") (rListTK K) := by
  subst hK
  intro pins s σ H xs us Q I r h
  obtain ⟨p, vs, rfl, hs, q⟩ := h
  exact call_list_of pins s σ H _ us Q I r ⟨p, _, rfl, Or.inr hs, q⟩
theorem SqT.cast {K : PySem.W.Frag} {H : Hp} {a : Addr} {xs ys : List V} (h : SqT K H a xs) (e : xs = ys) : SqT K H a ys := e ▸ h
end Vx
/-! # lists stored into trees -/
namespace Vx
open PySem PySem.Spec PyProof.Rows L2
section
variable {G H I : Hp} {α : Type} {f : α → Dt} {L : List Addr} {vs : List V} {xs : List α}
theorem OwAll.set {L1 : List Addr} {v : V} {d : Dt} (h : Ow G H L1 v d) : ∀ {L : List Addr} {vs : List V} {ds : List Dt} (i : Nat), i < ds.length → OwAll G H L vs ds → (∀ b ∈ L1, b ∉ L) → ∃ L', (∀ b ∈ L', b ∈ L ++ L1) ∧ OwAll G H L' (vs.set i v) (ds.set i d)
  | _, _, _, _, hi, .nil, _ => absurd hi (Nat.not_lt_zero _)
  | _, _, _, 0, _, .cons (L1 := La) (L2 := Lb) a r n, nf => by
    refine ⟨L1 ++ Lb, fun b hb => ?_, .cons h r fun b hb q => nf b hb (List.mem_append_right _ q)⟩
    rcases List.mem_append.mp hb with q | q
    · exact List.mem_append_right _ q
    · exact List.mem_append_left _ (List.mem_append_right _ q)
  | _, _, _, i + 1, hi, .cons (L1 := La) (L2 := Lb) a r n, nf => by
    obtain ⟨L', s, w⟩ := OwAll.set h i (Nat.lt_of_succ_lt_succ hi) r fun b hb q => nf b hb (List.mem_append_right _ q)
    refine ⟨La ++ L', fun b hb => ?_, .cons a w fun b hb q => ?_⟩
    · rcases List.mem_append.mp hb with q | q
      · exact List.mem_append_left _ (List.mem_append_left _ q)
      · rcases List.mem_append.mp (s b q) with z | z
        · exact List.mem_append_left _ (List.mem_append_right _ z)
        · exact List.mem_append_right _ z
    · rcases List.mem_append.mp (s b q) with z | z
      · exact n b hb z
      · exact nf b z (List.mem_append_left _ hb)
theorem ixN_len {k : Int} (e : vs.length = xs.length) (h : -(xs.length : Int) ≤ k ∧ k < xs.length) : ixN vs.length k = some ((ixN vs.length k).getD 0) := by
  rw [e]
  obtain ⟨j, hj, _⟩ := ixN_some h
  rw [hj]
  rfl
theorem OwAll.setM {k : Int} {L1 : List Addr} {v : V} {y : α} (w : OwAll G H L vs (xs.map f)) (h : -(xs.length : Int) ≤ k ∧ k < xs.length) (ow : Ow G H L1 v (f y)) (n : ∀ b ∈ L1, b ∉ L) :
    ∃ L', (∀ b ∈ L', b ∈ L ++ L1) ∧ OwAll G H L' (vs.set ((ixN vs.length k).getD 0) v) ((setL xs k y).map f) := by
  obtain ⟨j, e, hj⟩ := ixN_some h
  obtain ⟨L', s, z⟩ := OwAll.set ow j (by simpa using hj) w n
  refine ⟨L', s, ?_⟩
  unfold setL
  rw [w.lenM, e, List.map_set]
  exact z
end
theorem ne_of_len {α : Type} {xs : List α} (h : xs.length = 4 ∨ xs.length = 6 ∨ xs.length = 8) : xs ≠ [] := by
  rintro rfl
  simp at h
end Vx
/-! # fourth part: reckoning with functions that may refuse -/
namespace Vx
open PySem PySem.Spec PyProof.Rows L2
section
variable {α β σ ρ τ : Type}
theorem bind_ok (a : α) (f : α → Rx β) : (Rx.ok a).bind f = f a := rfl
theorem bind_er (e : Nat) (f : α → Rx β) : (Rx.er e : Rx α).bind f = .er e := rfl
theorem grd_pos {p : Prop} {dp : Decidable p} {m : Rx α} (h : p) : grd p m = m := if_pos h
theorem bnd_eq (a : α) (f : α → Rx β) : bnd a f = f a := rfl
theorem noEr_ok (a : α) : noEr (.ok a : Rx α) = .ok a := rfl
theorem tryR_ok {cs : List Nat} (a : α) (f : α → Rx β) (g : Nat → Rx β) : tryR (.ok a) cs f g = f a := rfl
theorem tryR_er {cs : List Nat} {e : Nat} (h : e ∈ cs) (f : α → Rx β) (g : Nat → Rx β) : tryR (.er e) cs f g = g e := if_pos h
theorem aft_go (s : σ) (kr : ρ → Rx τ) (k : σ → Rx τ) : (Lp.go s : Lp σ ρ).aft kr k = k s := rfl
theorem aft_rt (r : ρ) (kr : ρ → Rx τ) (k : σ → Rx τ) : (Lp.rt r : Lp σ ρ).aft kr k = kr r := rfl
/-- gives a value of which P holds -/
def Gv (m : Rx α) (P : α → Prop) : Prop := ∃ v, m = .ok v ∧ P v
theorem Gv.ok {a : α} {P : α → Prop} (h : P a) : Gv (.ok a) P := ⟨a, rfl, h⟩
theorem Gv.of_eq {m : Rx α} {a : α} {P : α → Prop} (e : m = .ok a) (h : P a) : Gv m P := ⟨a, e, h⟩
theorem Gv.bind {m : Rx α} {f : α → Rx β} {P : α → Prop} {Q : β → Prop} (h : Gv m P) (k : ∀ v, P v → Gv (f v) Q) : Gv (m.bind f) Q := by
  obtain ⟨v, rfl, p⟩ := h
  exact k v p
theorem Gv.bind_eq {m : Rx α} {f : α → Rx β} {a : α} {Q : β → Prop} (h : m = .ok a) (k : Gv (f a) Q) : Gv (m.bind f) Q := by
  subst h
  exact k
theorem Gv.grd {p : Prop} {dp : Decidable p} {m : Rx α} {Q : α → Prop} (h : p) (k : Gv m Q) : Gv (Vx.grd p m) Q := by
  rw [grd_pos h]
  exact k
theorem Gv.bnd {a : α} {f : α → Rx β} {Q : β → Prop} (k : ∀ x, x = a → Gv (f x) Q) : Gv (Vx.bnd a f) Q := k a rfl
theorem Gv.ite {p : Prop} {dp : Decidable p} {a b : Rx α} {Q : α → Prop} (h1 : p → Gv a Q) (h2 : ¬ p → Gv b Q) : Gv (if p then a else b) Q := by
  split
  · exact h1 ‹_›
  · exact h2 ‹_›
theorem Gv.pos {p : Prop} {dp : Decidable p} {a b : Rx α} {Q : α → Prop} (h : p) (k : Gv a Q) : Gv (if p then a else b) Q := by rwa [if_pos h]
theorem Gv.neg {p : Prop} {dp : Decidable p} {a b : Rx α} {Q : α → Prop} (h : ¬ p) (k : Gv b Q) : Gv (if p then a else b) Q := by rwa [if_neg h]
theorem Gv.imp {m : Rx α} {P Q : α → Prop} (h : Gv m P) (k : ∀ v, P v → Q v) : Gv m Q := by
  obtain ⟨v, e, p⟩ := h
  exact ⟨v, e, k v p⟩
theorem Gv.noEr {m : Rx α} {P : α → Prop} (h : Gv m P) : Gv (Vx.noEr m) P := by
  obtain ⟨v, rfl, p⟩ := h
  exact ⟨v, rfl, p⟩
theorem Gv.tryOk {m : Rx α} {cs : List Nat} {f : α → Rx β} {g : Nat → Rx β} {P : α → Prop} {Q : β → Prop} (h : Gv m P) (k : ∀ v, P v → Gv (f v) Q) : Gv (tryR m cs f g) Q := by
  obtain ⟨v, rfl, p⟩ := h
  exact k v p
theorem Gv.tryEr {m : Rx α} {cs : List Nat} {e : Nat} {f : α → Rx β} {g : Nat → Rx β} {Q : β → Prop} (h : m = .er e) (hm : e ∈ cs) (k : Gv (g e) Q) : Gv (tryR m cs f g) Q := by
  subst h
  rw [tryR_er hm]
  exact k
theorem Gv.get {m : Rx α} {a : α} (h : Gv m (fun v => v = a)) : m = .ok a := by
  obtain ⟨v, e, rfl⟩ := h
  exact e
theorem Gv.eq {m : Rx α} {P : α → Prop} (h : Gv m P) : ∃ v, m = .ok v ∧ P v := h
/-- a loop that keeps P -/
theorem Gv.forS {P : Nat → σ → Prop} {xs : List α} {s : σ} {f : σ → α → Rx σ} (h0 : P 0 s) (hs : ∀ i x s, xs[i]? = some x → P i s → Gv (f s x) (P (i + 1))) : Gv (Vx.forS xs s f) (P xs.length) := by
  induction xs generalizing s P with
  | nil => exact .ok h0
  | cons x r ih =>
    refine Gv.bind (hs 0 x s rfl h0) fun s' p => ?_
    exact ih (P := fun i => P (i + 1)) p fun i y s hy q => hs (i + 1) y s (by simpa using hy) q
theorem Gv.forR {P : Nat → σ → Prop} {xs : List α} {s : σ} {f : σ → α → Rx (Lp σ ρ)} (h0 : P 0 s) (hs : ∀ i x s, xs[i]? = some x → P i s → Gv (f s x) (fun l => ∃ s', l = .go s' ∧ P (i + 1) s')) : Gv (Vx.forR xs s f) (fun l => ∃ s', l = .go s' ∧ P xs.length s') := by
  induction xs generalizing s P with
  | nil => exact .ok ⟨s, rfl, h0⟩
  | cons x r ih =>
    refine Gv.bind (hs 0 x s rfl h0) ?_
    rintro _ ⟨s', rfl, p⟩
    exact ih (P := fun i => P (i + 1)) p fun i y s hy q => hs (i + 1) y s (by simpa using hy) q
/-- a loop that carries nothing -/
theorem forR_unit {xs : List α} {f : Unit → α → Rx (Lp Unit ρ)} (h : ∀ x ∈ xs, f () x = .ok (.go ())) : Vx.forR xs () f = .ok (.go ()) := by
  induction xs with
  | nil => rfl
  | cons x r ih =>
    show (f () x).bind _ = _
    rw [h x List.mem_cons_self]
    exact ih fun y hy => h y (List.mem_cons_of_mem _ hy)
theorem forS_pure {xs : List α} {s : σ} {f : σ → α → Rx σ} {g : σ → α → σ} (h : ∀ s x, x ∈ xs → f s x = .ok (g s x)) : Vx.forS xs s f = .ok (xs.foldl g s) := by
  induction xs generalizing s with
  | nil => rfl
  | cons x r ih =>
    show (f s x).bind _ = _
    rw [h s x List.mem_cons_self]
    exact ih fun s y hy => h s y (List.mem_cons_of_mem _ hy)
theorem mapA_pure {xs : List α} {acc : List β} {f : α → Rx β} {g : α → β} (h : ∀ x ∈ xs, f x = .ok (g x)) (hl : acc.length + xs.length ≤ 1000000) : mapA xs acc f = .ok (acc ++ xs.map g) := by
  induction xs generalizing acc with
  | nil => simp [mapA]
  | cons x r ih =>
    rw [List.length_cons] at hl
    unfold mapA
    rw [grd_pos (by omega), h x List.mem_cons_self, bind_ok, ih (fun y hy => h y (List.mem_cons_of_mem _ hy)) (by rw [List.length_append, List.length_cons, List.length_nil]; omega)]
    simp
theorem mapA_pure0 {xs : List α} {f : α → Rx β} {g : α → β} (h : ∀ x ∈ xs, f x = .ok (g x)) (hl : xs.length ≤ 1000000) : mapA xs [] f = .ok (xs.map g) := by
  rw [mapA_pure h (by simpa using hl)]
  rfl
theorem mapF_pure {xs : List α} {acc : List β} {f : α → Rx (Option β)} {g : α → Option β} (h : ∀ x ∈ xs, f x = .ok (g x)) (hl : acc.length + xs.length ≤ 1000000) : mapF xs acc f = .ok (acc ++ xs.filterMap g) := by
  induction xs generalizing acc with
  | nil => simp [mapF]
  | cons x r ih =>
    rw [List.length_cons] at hl
    unfold mapF
    rw [grd_pos (by omega), h x List.mem_cons_self, bind_ok]
    cases e : g x with
    | none =>
      show mapF r acc f = _
      rw [ih (fun y hy => h y (List.mem_cons_of_mem _ hy)) (by omega), List.filterMap_cons, e]
    | some z =>
      show mapF r (acc ++ [z]) f = _
      rw [ih (fun y hy => h y (List.mem_cons_of_mem _ hy)) (by rw [List.length_append, List.length_cons, List.length_nil]; omega), List.filterMap_cons, e]
      simp
/-- a while that ends: m falls -/
theorem Gv.whileR {P : σ → Prop} {R : σ → Prop} (m : σ → Nat) {f : σ → Rx (Lp σ ρ)} (hs : ∀ s, P s → Gv (f s) (fun l => (∃ s', l = .go s' ∧ P s' ∧ m s' < m s) ∨ ∃ s', l = .bk s' ∧ R s')) : ∀ {n : Nat} {s : σ}, P s → m s < n → Gv (Vx.whileR n s f) (fun l => ∃ s', l = .go s' ∧ R s') := by
  intro n
  induction n with
  | zero => intro s _ h; exact absurd h (Nat.not_lt_zero _)
  | succ n ih =>
    intro s p h
    refine Gv.bind (hs s p) ?_
    rintro _ (⟨s', rfl, p', l⟩ | ⟨s', rfl, r⟩)
    · exact ih p' (by omega)
    · exact .ok ⟨s', rfl, r⟩
end
theorem rng_mem {lo x : Int} {n : Nat} (h : x ∈ rng lo n) : lo ≤ x ∧ x < lo + n := by
  unfold rng at h
  obtain ⟨j, hj, rfl⟩ := List.mem_map.mp h
  have := List.mem_range.mp hj
  omega
theorem rng_at {lo x : Int} {n i : Nat} (h : (rng lo n)[i]? = some x) : x = lo + i ∧ i < n := by
  have hl := get_len h
  rw [rng_len] at hl
  rw [rng_get hl] at h
  exact ⟨(Option.some.inj h).symm, hl⟩
end Vx
namespace Vx
open PySem PySem.Spec PyProof.Rows L2
def F__law_digits_b1 (base_12 : Int) (large_13 : Bool) (cell_25 : Int) (digits_26 : (List Int)) (it29 : Int) : Rx (Int × (List Int)) :=
  (if large_13 = true then grd (0 < (base_12 : Int)) <| grd ((digits_26).length ≤ 1000000) <| bnd ((digits_26) ++ [(cell_25 % base_12)]) fun y39 => grd (0 < (base_12 : Int) ∧ (base_12 : Int) < 2 ^ 128) <| bnd ((cell_25 / base_12)) fun cell_41 => .ok ((cell_41), (y39)) else grd ((-(2 ^ 64) < ((it29 + 1) : Int) ∧ ((it29 + 1) : Int) < 2 ^ 64) ∨ (-(2 ^ 64) < ((it29 + 5) : Int) ∧ ((it29 + 5) : Int) < 2 ^ 64)) <| grd ((-(2 ^ 64) < ((cell_25 / 97) : Int) ∧ ((cell_25 / 97) : Int) < 2 ^ 64) ∨ (-(2 ^ 64) < (it29 : Int) ∧ (it29 : Int) < 2 ^ 64)) <| grd (0 < (base_12 : Int)) <| grd ((digits_26).length ≤ 1000000) <| bnd ((digits_26) ++ [(((((cell_25 * 48271) + (((it29 + 1) * (it29 + 5)) * 69621)) + ((cell_25 / 97) * it29)) % 2147483647) % base_12)]) fun y52 => .ok ((cell_25), (y52)))

def F__law_digits_r1 (cell_58 : Int) (digits_59 : (List Int)) : Rx (List Int) :=
  .ok (digits_59)

def F__law_digits (cell' : Int) (base' : Int) (most' : Int) : Rx (List Int) :=
  bnd (decide (((10 : Int) ^ Int.toNat 18) ≤ cell')) fun large_10 => grd (-(2 ^ 62) ≤ most' ∧ most' < 2 ^ 62) <| Rx.bind (forS (rng (0) (Int.toNat (most'))) ((cell'), (([] : (List Int)))) (fun s x => F__law_digits_b1 (base') (large_10) (s.1) (s.2) x)) fun s => F__law_digits_r1  (s.1) (s.2)

def F__law_rows_k3 (row_149 : (List Int)) (worth_150 : Int) : Rx ((List Int)) :=
  grd ((row_149).length ≤ 1000000) <| bnd ((row_149) ++ [worth_150]) fun y174 => .ok (y174)

def F__law_rows_b2 (cell_119 : Int) (size_120 : Int) (most_121 : Int) (digits_122 : (List Int)) (j_123 : Int) (row_142 : (List Int)) (it145 : Int) : Rx ((List Int)) :=
  grd ((-(2 ^ 64) < (j_123 : Int) ∧ (j_123 : Int) < 2 ^ 64) ∨ (-(2 ^ 64) < (size_120 : Int) ∧ (size_120 : Int) < 2 ^ 64)) <| grd (-((digits_122).length : Int) ≤ ((j_123 * size_120) + it145) ∧ ((j_123 * size_120) + it145) < ((digits_122).length : Int)) <| bnd (((itD (digits_122) (((j_123 * size_120) + it145))) - most_121)) fun worth_148 => Rx.bind (((if (((cell_119 / 13) % 3) : Int) = 2 then bnd ((if 0 < worth_148 then most_121 else (-most_121))) fun worth_158 => .ok (worth_158) else .ok (worth_148)) : Rx (Int))) fun s => F__law_rows_k3 (row_142) s

def F__law_rows_r2 (rows_124 : (List (List Int))) (row_186 : (List Int)) : Rx ((List (List Int))) :=
  grd ((rows_124).length ≤ 1000000) <| bnd ((rows_124) ++ [row_186]) fun y195 => .ok (y195)

def F__law_rows_b1 (cell_81 : Int) (size_82 : Int) (most_83 : Int) (digits_84 : (List Int)) (rows_105 : (List (List Int))) (it108 : Int) : Rx ((List (List Int))) :=
  grd (-(2 ^ 62) ≤ size_82 ∧ size_82 < 2 ^ 62) <| Rx.bind (forS (rng (0) (Int.toNat (size_82))) (([] : (List Int))) (fun s x => F__law_rows_b2 (cell_81) (size_82) (most_83) (digits_84) (it108) s x)) fun s => F__law_rows_r2 (rows_105) s

def F__law_rows_r1 (rows_206 : (List (List Int))) : Rx (List (List Int)) :=
  .ok (rows_206)

def F__law_rows (cell' : Int) (size' : Int) (most' : Int) : Rx (List (List Int)) :=
  grd ((-(2 ^ 64) < (size' : Int) ∧ (size' : Int) < 2 ^ 64) ∨ (-(2 ^ 64) < (size' : Int) ∧ (size' : Int) < 2 ^ 64)) <| Rx.bind (F__law_digits cell' (((2 * most') + 1)) ((size' * size'))) fun v61 => grd (-(2 ^ 62) ≤ size' ∧ size' < 2 ^ 62) <| Rx.bind (forS (rng (0) (Int.toNat (size'))) (([] : (List (List Int)))) (fun s x => F__law_rows_b1 (cell') (size') (most') (v61) s x)) fun s => F__law_rows_r1  s

def F_check_size (size' : Int) : Rx Unit :=
  (if (size' : Int) ∈ ([4, 8] : List Int) then .ok (()) else .er 1)

def F_check_square_b1 (square_213 : (List (List Int))) (it231 : (List Int)) : Rx Unit :=
  (if ((((it231) : (List Int)).length : Int) : Int) = (((square_213) : (List (List Int))).length : Int) then .ok () else .er 1)

def F_check_square_r1  : Rx Unit :=
  .ok (())

def F_check_square (square' : (List (List Int))) : Rx Unit :=
  Rx.bind (F_check_size ((((square') : (List (List Int))).length : Int))) fun v212 => Rx.bind (forS (square') () (fun s x => F_check_square_b1 (square')  x)) fun s => F_check_square_r1  

def F_transposed_c1 (it295 : (List Int)) : Rx (List Int) :=
  .ok it295

def F_transposed (rows' : (List (List Int))) : Rx (List (List Int)) :=
  grd ((rows' : List (List Int)).length = 4 ∨ (rows' : List (List Int)).length = 6 ∨ (rows' : List (List Int)).length = 8) <| Rx.bind (mapA (zipRows (rows')) [] (fun x => noEr (F_transposed_c1  x))) fun v245 => .ok (v245)

def F_split_pair (first' : Int) (second' : Int) : Rx (Int × Int) :=
  .ok ((((first' + second') / 2), (first' - second')))

def F_turn_pair (first' : Int) (second' : Int) (outer' : Int) (inner' : Int) : Rx (Int × Int) :=
  grd ((-(2 ^ 64) < (outer' : Int) ∧ (outer' : Int) < 2 ^ 64) ∨ (-(2 ^ 64) < (first' : Int) ∧ (first' : Int) < 2 ^ 64)) <| bnd ((second' + (((outer' * first') + 16) / 32))) fun second_338 => grd ((-(2 ^ 64) < (inner' : Int) ∧ (inner' : Int) < 2 ^ 64) ∨ (-(2 ^ 64) < (second_338 : Int) ∧ (second_338 : Int) < 2 ^ 64)) <| bnd ((first' - (((inner' * second_338) + 16) / 32))) fun first_340 => grd ((-(2 ^ 64) < (outer' : Int) ∧ (outer' : Int) < 2 ^ 64) ∨ (-(2 ^ 64) < (first_340 : Int) ∧ (first_340 : Int) < 2 ^ 64)) <| bnd ((second_338 + (((outer' * first_340) + 16) / 32))) fun second_342 => .ok ((first_340, second_342))

def F__forward_four_k5 (c0_458 : Int) (c2_459 : Int) (c1_460 : Int) (c3_461 : Int) : Rx (List Int) :=
  .ok ([c0_458, c1_460, c2_459, c3_461])

def F__forward_four_k4 (h0_430 : Int) (h1_431 : Int) (c0_432 : Int) (c2_433 : Int) : Rx (List Int) :=
  Rx.bind ((Rx.bind (F_turn_pair h0_430 h1_431 6 12) fun v466 => .ok ((v466.1), (v466.2)) : Rx (Int × Int))) fun s => F__forward_four_k5 (c0_432) (c2_433) (s.1) (s.2)

def F__forward_four_k3 (l0_402 : Int) (h0_403 : Int) (l1_404 : Int) (h1_405 : Int) : Rx (List Int) :=
  Rx.bind ((Rx.bind (F_split_pair l0_402 l1_404) fun v438 => .ok ((v438.1), (v438.2)) : Rx (Int × Int))) fun s => F__forward_four_k4 (h0_403) (h1_405) (s.1) (s.2)

def F__forward_four_k2 (x1_374 : Int) (x2_375 : Int) (l0_376 : Int) (h0_377 : Int) : Rx (List Int) :=
  Rx.bind ((Rx.bind (F_split_pair x1_374 x2_375) fun v410 => .ok ((v410.1), (v410.2)) : Rx (Int × Int))) fun s => F__forward_four_k3 (l0_376) (h0_377) (s.1) (s.2)

def F__forward_four_k1 (x0_355 : Int) (x1_356 : Int) (x2_357 : Int) (x3_358 : Int) : Rx (List Int) :=
  Rx.bind ((Rx.bind (F_split_pair x0_355 x3_358) fun v382 => .ok ((v382.1), (v382.2)) : Rx (Int × Int))) fun s => F__forward_four_k2 (x1_356) (x2_357) (s.1) (s.2)

def F__forward_four (values' : (List Int)) : Rx (List Int) :=
  Rx.bind ((grd ((values').length = 4) <| bnd ((itD (values') 0)) fun x0_366 => bnd ((itD (values') 1)) fun x1_367 => bnd ((itD (values') 2)) fun x2_368 => bnd ((itD (values') 3)) fun x3_369 => .ok ((x0_366), (x1_367), (x2_368), (x3_369)) : Rx (Int × Int × Int × Int))) fun s => F__forward_four_k1  (s.1) (s.2.1) (s.2.2.1) (s.2.2.2)

def F__forward_eight_c2 (values_500 : (List Int)) (it529 : Int) : Rx (Int × Int) :=
  grd (-((values_500).length : Int) ≤ it529 ∧ it529 < ((values_500).length : Int)) <| grd (-((values_500).length : Int) ≤ (7 - it529) ∧ (7 - it529) < ((values_500).length : Int)) <| Rx.bind (F_split_pair ((itD (values_500) (it529))) ((itD (values_500) ((7 - it529))))) fun v532 => .ok v532

def F__forward_eight_c4 (it638 : (Int × Int)) : Rx Int :=
  .ok it638.2

def F__forward_eight_c6 (it727 : (Int × Int)) : Rx Int :=
  .ok it727.1

def F__forward_eight_k10 (e0_860 : Int) (e1_861 : Int) (e2_862 : Int) (e3_863 : Int) (f0_864 : Int) (f1_865 : Int) (f2_866 : Int) (f3_867 : Int) : Rx (List Int) :=
  .ok ([e0_860, f0_864, e1_861, f2_866, e2_862, f1_865, e3_863, f3_867])

def F__forward_eight_k9 (e0_828 : Int) (e1_829 : Int) (e2_830 : Int) (e3_831 : Int) (d3_832 : Int) (d2_833 : Int) (f0_834 : Int) (f1_835 : Int) : Rx (List Int) :=
  Rx.bind ((Rx.bind (F_split_pair d2_833 d3_832) fun v872 => .ok ((v872.1), (v872.2)) : Rx (Int × Int))) fun s => F__forward_eight_k10 (e0_828) (e1_829) (e2_830) (e3_831) (f0_834) (f1_835) (s.1) (s.2)

def F__forward_eight_k8 (e0_796 : Int) (e1_797 : Int) (e2_798 : Int) (e3_799 : Int) (d0_800 : Int) (d3_801 : Int) (d1_802 : Int) (d2_803 : Int) : Rx (List Int) :=
  Rx.bind ((Rx.bind (F_split_pair d0_800 d1_802) fun v840 => .ok ((v840.1), (v840.2)) : Rx (Int × Int))) fun s => F__forward_eight_k9 (e0_796) (e1_797) (e2_798) (e3_799) (d3_801) (d2_803) (s.1) (s.2)

def F__forward_eight_k7 (h1_764 : Int) (h2_765 : Int) (e0_766 : Int) (e1_767 : Int) (e2_768 : Int) (e3_769 : Int) (d0_770 : Int) (d3_771 : Int) : Rx (List Int) :=
  Rx.bind ((Rx.bind (F_turn_pair h1_764 h2_765 10 18) fun v808 => .ok ((v808.1), (v808.2)) : Rx (Int × Int))) fun s => F__forward_eight_k8 (e0_766) (e1_767) (e2_768) (e3_769) (d0_770) (d3_771) (s.1) (s.2)

def F__forward_eight_k5 (h0_666 : Int) (h1_667 : Int) (h2_668 : Int) (h3_669 : Int) (e0_670 : Int) (e1_671 : Int) (e2_672 : Int) (e3_673 : Int) : Rx (List Int) :=
  Rx.bind ((Rx.bind (F_turn_pair h0_666 h3_669 3 6) fun v776 => .ok ((v776.1), (v776.2)) : Rx (Int × Int))) fun s => F__forward_eight_k7 (h1_667) (h2_668) (e0_670) (e1_671) (e2_672) (e3_673) (s.1) (s.2)

def F__forward_eight_k3 (pairs_580 : (List (Int × Int))) (h0_581 : Int) (h1_582 : Int) (h2_583 : Int) (h3_584 : Int) : Rx (List Int) :=
  Rx.bind ((Rx.bind (mapA (pairs_580) [] (fun x => noEr (F__forward_eight_c6  x))) fun v680 => Rx.bind (F__forward_four (v680)) fun v746 => grd ((v746).length = 4) <| bnd ((itD (v746) 0)) fun e0_756 => bnd ((itD (v746) 1)) fun e1_757 => bnd ((itD (v746) 2)) fun e2_758 => bnd ((itD (v746) 3)) fun e3_759 => .ok ((e0_756), (e1_757), (e2_758), (e3_759)) : Rx (Int × Int × Int × Int))) fun s => F__forward_eight_k5 (h0_581) (h1_582) (h2_583) (h3_584) (s.1) (s.2.1) (s.2.2.1) (s.2.2.2)

def F__forward_eight_k1 (pairs_495 : (List (Int × Int))) : Rx (List Int) :=
  Rx.bind ((Rx.bind (mapA (pairs_495) [] (fun x => noEr (F__forward_eight_c4  x))) fun v591 => grd ((v591).length = 4) <| bnd ((itD (v591) 0)) fun h0_658 => bnd ((itD (v591) 1)) fun h1_659 => bnd ((itD (v591) 2)) fun h2_660 => bnd ((itD (v591) 3)) fun h3_661 => .ok ((h0_658), (h1_659), (h2_660), (h3_661)) : Rx (Int × Int × Int × Int))) fun s => F__forward_eight_k3 (pairs_495) (s.1) (s.2.1) (s.2.2.1) (s.2.2.2)

def F__forward_eight (values' : (List Int)) : Rx (List Int) :=
  Rx.bind ((Rx.bind (mapA (rng (0) (Int.toNat (4))) [] (fun x => noEr (F__forward_eight_c2 (values') x))) fun v501 => .ok (v501) : Rx ((List (Int × Int))))) fun s => F__forward_eight_k1  s

def F_forward (values' : (List Int)) : Rx (List Int) :=
  Rx.bind (F_check_size ((((values') : (List Int)).length : Int))) fun v901 => (if ((((values') : (List Int)).length : Int) : Int) = 4 then Rx.bind (F__forward_four (values')) fun v903 => .ok (v903) else Rx.bind (F__forward_eight (values')) fun v912 => .ok (v912))

def F_forward_square_c1 (it972 : (List Int)) : Rx (List Int) :=
  Rx.bind (F_forward (it972)) fun v973 => .ok v973

def F_forward_square_c2 (it1080 : (List Int)) : Rx (List Int) :=
  Rx.bind (F_forward (it1080)) fun v1081 => .ok v1081

def F_forward_square (square' : (List (List Int))) : Rx (List (List Int)) :=
  Rx.bind (F_check_square (square')) fun v925 => Rx.bind (mapA (square') [] (fun x => noEr (F_forward_square_c1  x))) fun v929 => Rx.bind (F_transposed (v929)) fun v1002 => Rx.bind (mapA (v1002) [] (fun x => noEr (F_forward_square_c2  x))) fun v1021 => Rx.bind (F_transposed (v1021)) fun v1121 => .ok (v1121)

def F_turn_back (first' : Int) (second' : Int) (outer' : Int) (inner' : Int) : Rx (Int × Int) :=
  grd ((-(2 ^ 64) < (outer' : Int) ∧ (outer' : Int) < 2 ^ 64) ∨ (-(2 ^ 64) < (first' : Int) ∧ (first' : Int) < 2 ^ 64)) <| bnd ((second' - (((outer' * first') + 16) / 32))) fun second_1141 => grd ((-(2 ^ 64) < (inner' : Int) ∧ (inner' : Int) < 2 ^ 64) ∨ (-(2 ^ 64) < (second_1141 : Int) ∧ (second_1141 : Int) < 2 ^ 64)) <| bnd ((first' + (((inner' * second_1141) + 16) / 32))) fun first_1143 => grd ((-(2 ^ 64) < (outer' : Int) ∧ (outer' : Int) < 2 ^ 64) ∨ (-(2 ^ 64) < (first_1143 : Int) ∧ (first_1143 : Int) < 2 ^ 64)) <| bnd ((second_1141 - (((outer' * first_1143) + 16) / 32))) fun second_1145 => .ok ((first_1143, second_1145))

def F_join_pair (low' : Int) (high' : Int) : Rx (Int × Int) :=
  bnd ((low' + ((high' + 1) / 2))) fun first_1158 => .ok ((first_1158, (first_1158 - high')))

def F__inverse_four_k5 (x1_1274 : Int) (x2_1275 : Int) (x0_1276 : Int) (x3_1277 : Int) : Rx (List Int) :=
  .ok ([x0_1276, x1_1274, x2_1275, x3_1277])

def F__inverse_four_k4 (h0_1246 : Int) (l0_1247 : Int) (x1_1248 : Int) (x2_1249 : Int) : Rx (List Int) :=
  Rx.bind ((Rx.bind (F_join_pair l0_1247 h0_1246) fun v1282 => .ok ((v1282.1), (v1282.2)) : Rx (Int × Int))) fun s => F__inverse_four_k5 (x1_1248) (x2_1249) (s.1) (s.2)

def F__inverse_four_k3 (h0_1218 : Int) (h1_1219 : Int) (l0_1220 : Int) (l1_1221 : Int) : Rx (List Int) :=
  Rx.bind ((Rx.bind (F_join_pair l1_1221 h1_1219) fun v1254 => .ok ((v1254.1), (v1254.2)) : Rx (Int × Int))) fun s => F__inverse_four_k4 (h0_1218) (l0_1220) (s.1) (s.2)

def F__inverse_four_k2 (c0_1190 : Int) (c2_1191 : Int) (h0_1192 : Int) (h1_1193 : Int) : Rx (List Int) :=
  Rx.bind ((Rx.bind (F_join_pair c0_1190 c2_1191) fun v1226 => .ok ((v1226.1), (v1226.2)) : Rx (Int × Int))) fun s => F__inverse_four_k3 (h0_1192) (h1_1193) (s.1) (s.2)

def F__inverse_four_k1 (c0_1171 : Int) (c1_1172 : Int) (c2_1173 : Int) (c3_1174 : Int) : Rx (List Int) :=
  Rx.bind ((Rx.bind (F_turn_back c1_1172 c3_1174 6 12) fun v1198 => .ok ((v1198.1), (v1198.2)) : Rx (Int × Int))) fun s => F__inverse_four_k2 (c0_1171) (c2_1173) (s.1) (s.2)

def F__inverse_four (values' : (List Int)) : Rx (List Int) :=
  Rx.bind ((grd ((values').length = 4) <| bnd ((itD (values') 0)) fun c0_1182 => bnd ((itD (values') 1)) fun c1_1183 => bnd ((itD (values') 2)) fun c2_1184 => bnd ((itD (values') 3)) fun c3_1185 => .ok ((c0_1182), (c1_1183), (c2_1184), (c3_1185)) : Rx (Int × Int × Int × Int))) fun s => F__inverse_four_k1  (s.1) (s.2.1) (s.2.2.1) (s.2.2.2)

def F__inverse_eight_c8 (it1579 : (Int × Int)) : Rx (Int × Int) :=
  Rx.bind (F_join_pair it1579.1 it1579.2) fun v1580 => .ok v1580

def F__inverse_eight_c9 (it1683 : (Int × Int)) : Rx Int :=
  .ok it1683.1

def F__inverse_eight_c10 (it1770 : (Int × Int)) : Rx Int :=
  .ok it1770.2

def F__inverse_eight_k7 (pairs_1503 : (List (Int × Int))) : Rx (List Int) :=
  Rx.bind (mapA (pairs_1503) [] (fun x => noEr (F__inverse_eight_c9  x))) fun v1633 => Rx.bind (mapA ((pairs_1503).reverse) [] (fun x => noEr (F__inverse_eight_c10  x))) fun v1714 => grd ((v1633).length + (v1714).length ≤ 1000000) <| .ok ((v1633) ++ (v1714))

def F__inverse_eight_k6 (h1_1470 : Int) (h2_1471 : Int) (h0_1472 : Int) (h3_1473 : Int) (lows_1474 : (List Int)) : Rx (List Int) :=
  Rx.bind ((grd ((lows_1474).length = ([h0_1472, h1_1470, h2_1471, h3_1473]).length) <| Rx.bind (mapA (List.zip (lows_1474) ([h0_1472, h1_1470, h2_1471, h3_1473])) [] (fun x => noEr (F__inverse_eight_c8  x))) fun v1519 => .ok (v1519) : Rx ((List (Int × Int))))) fun s => F__inverse_eight_k7  s

def F__inverse_eight_k5 (e0_1438 : Int) (e1_1439 : Int) (e2_1440 : Int) (e3_1441 : Int) (h1_1442 : Int) (h2_1443 : Int) (h0_1444 : Int) (h3_1445 : Int) : Rx (List Int) :=
  Rx.bind ((Rx.bind (F__inverse_four ([e0_1438, e1_1439, e2_1440, e3_1441])) fun v1488 => .ok (v1488) : Rx ((List Int)))) fun s => F__inverse_eight_k6 (h1_1442) (h2_1443) (h0_1444) (h3_1445) s

def F__inverse_eight_k4 (e0_1406 : Int) (e1_1407 : Int) (e2_1408 : Int) (e3_1409 : Int) (d3_1410 : Int) (d0_1411 : Int) (h1_1412 : Int) (h2_1413 : Int) : Rx (List Int) :=
  Rx.bind ((Rx.bind (F_turn_back d0_1411 d3_1410 3 6) fun v1450 => .ok ((v1450.1), (v1450.2)) : Rx (Int × Int))) fun s => F__inverse_eight_k5 (e0_1406) (e1_1407) (e2_1408) (e3_1409) (h1_1412) (h2_1413) (s.1) (s.2)

def F__inverse_eight_k3 (e0_1374 : Int) (e1_1375 : Int) (e2_1376 : Int) (e3_1377 : Int) (d2_1378 : Int) (d3_1379 : Int) (d0_1380 : Int) (d1_1381 : Int) : Rx (List Int) :=
  Rx.bind ((Rx.bind (F_turn_back d1_1381 d2_1378 10 18) fun v1418 => .ok ((v1418.1), (v1418.2)) : Rx (Int × Int))) fun s => F__inverse_eight_k4 (e0_1374) (e1_1375) (e2_1376) (e3_1377) (d3_1379) (d0_1380) (s.1) (s.2)

def F__inverse_eight_k2 (e0_1342 : Int) (f0_1343 : Int) (e1_1344 : Int) (e2_1345 : Int) (f1_1346 : Int) (e3_1347 : Int) (d2_1348 : Int) (d3_1349 : Int) : Rx (List Int) :=
  Rx.bind ((Rx.bind (F_join_pair f0_1343 f1_1346) fun v1386 => .ok ((v1386.1), (v1386.2)) : Rx (Int × Int))) fun s => F__inverse_eight_k3 (e0_1342) (e1_1344) (e2_1345) (e3_1347) (d2_1348) (d3_1349) (s.1) (s.2)

def F__inverse_eight_k1 (e0_1311 : Int) (f0_1312 : Int) (e1_1313 : Int) (f2_1314 : Int) (e2_1315 : Int) (f1_1316 : Int) (e3_1317 : Int) (f3_1318 : Int) : Rx (List Int) :=
  Rx.bind ((Rx.bind (F_join_pair f2_1314 f3_1318) fun v1354 => .ok ((v1354.1), (v1354.2)) : Rx (Int × Int))) fun s => F__inverse_eight_k2 (e0_1311) (f0_1312) (e1_1313) (e2_1315) (f1_1316) (e3_1317) (s.1) (s.2)

def F__inverse_eight (values' : (List Int)) : Rx (List Int) :=
  Rx.bind ((grd ((values').length = 8) <| bnd ((itD (values') 0)) fun e0_1330 => bnd ((itD (values') 1)) fun f0_1331 => bnd ((itD (values') 2)) fun e1_1332 => bnd ((itD (values') 3)) fun f2_1333 => bnd ((itD (values') 4)) fun e2_1334 => bnd ((itD (values') 5)) fun f1_1335 => bnd ((itD (values') 6)) fun e3_1336 => bnd ((itD (values') 7)) fun f3_1337 => .ok ((e0_1330), (f0_1331), (e1_1332), (f2_1333), (e2_1334), (f1_1335), (e3_1336), (f3_1337)) : Rx (Int × Int × Int × Int × Int × Int × Int × Int))) fun s => F__inverse_eight_k1  (s.1) (s.2.1) (s.2.2.1) (s.2.2.2.1) (s.2.2.2.2.1) (s.2.2.2.2.2.1) (s.2.2.2.2.2.2.1) (s.2.2.2.2.2.2.2)

def F_inverse (values' : (List Int)) : Rx (List Int) :=
  Rx.bind (F_check_size ((((values') : (List Int)).length : Int))) fun v1805 => (if ((((values') : (List Int)).length : Int) : Int) = 4 then Rx.bind (F__inverse_four (values')) fun v1807 => .ok (v1807) else Rx.bind (F__inverse_eight (values')) fun v1816 => .ok (v1816))

def F_inverse_square_c1 (it1905 : (List Int)) : Rx (List Int) :=
  Rx.bind (F_inverse (it1905)) fun v1906 => .ok v1906

def F_inverse_square_c2 (it2017 : (List Int)) : Rx (List Int) :=
  Rx.bind (F_inverse (it2017)) fun v2018 => .ok v2018

def F_inverse_square (square' : (List (List Int))) : Rx (List (List Int)) :=
  Rx.bind (F_check_square (square')) fun v1829 => Rx.bind (F_transposed (square')) fun v1833 => Rx.bind (mapA (v1833) [] (fun x => noEr (F_inverse_square_c1  x))) fun v1852 => Rx.bind (F_transposed (v1852)) fun v1939 => Rx.bind (mapA (v1939) [] (fun x => noEr (F_inverse_square_c2  x))) fun v1958 => .ok (v1958)

def F__law_cell (script' : (List Int)) (k' : Int) : Rx Int :=
  (if k' < (((script') : (List Int)).length : Int) then grd (-((script').length : Int) ≤ k' ∧ k' < ((script').length : Int)) <| .ok ((if (itD (script') (k')) < 0 then -(itD (script') (k')) else (itD (script') (k')))) else .ok (0))

def F__law_is_square_b2 (it2097 : Int) : Rx (Lp Unit Bool) :=
  .ok (.go ())

def F__law_is_square_r2  : Rx (Lp Unit Bool) :=
  .ok (.go ())

def F__law_is_square_b1 (size_2062 : Int) (it2081 : (List Int)) : Rx (Lp Unit Bool) :=
  (if ((((it2081) : (List Int)).length : Int) : Int) = size_2062 then Rx.bind (forR (it2081) () (fun s x => F__law_is_square_b2   x)) fun l => l.aft (fun r => .ok (.rt r)) fun s => F__law_is_square_r2   else .ok (.rt (false)))

def F__law_is_square_r1  : Rx Bool :=
  .ok (true)

def F__law_is_square (actual' : (List (List Int))) (size' : Int) : Rx Bool :=
  (if ((((actual') : (List (List Int))).length : Int) : Int) = size' then Rx.bind (forR (actual') () (fun s x => F__law_is_square_b1 (size')  x)) fun l => l.aft Rx.ok fun s => F__law_is_square_r1   else .ok (false))

def F__law_passes_c1 (it2153 : (List Int)) : Rx (List Int) :=
  Rx.bind (F_forward (it2153)) fun v2163 => .ok v2163

def F__law_passes_c2 (size_2193 : Int) (it2226 : Int) : Rx (List Int) :=
  grd (-(2 ^ 63) ≤ (size_2193 : Int) ∧ (size_2193 : Int) < 2 ^ 63 ∧ ([0]).length * Int.toNat (size_2193) ≤ 1000000) <| .ok (repL ([0]) (size_2193))

def F__law_passes_c4 (middle_2298 : (List (List Int))) (i_2299 : Int) (it2336 : Int) : Rx Int :=
  grd (-((middle_2298).length : Int) ≤ it2336 ∧ it2336 < ((middle_2298).length : Int)) <| grd (-(((itD (middle_2298) (it2336))).length : Int) ≤ i_2299 ∧ i_2299 < (((itD (middle_2298) (it2336))).length : Int)) <| .ok ((itD ((itD (middle_2298) (it2336))) (i_2299)))

def F__law_passes_b5 (i_2384 : Int) (column_2385 : (List Int)) (out_2410 : (List (List Int))) (it2413 : Int) : Rx ((List (List Int))) :=
  grd (-((column_2385).length : Int) ≤ it2413 ∧ it2413 < ((column_2385).length : Int)) <| grd (-((out_2410).length : Int) ≤ it2413 ∧ it2413 < ((out_2410).length : Int)) <| grd (-(((itD (out_2410) (it2413))).length : Int) ≤ i_2384 ∧ i_2384 < (((itD (out_2410) (it2413))).length : Int)) <| bnd (setL (out_2410) (it2413) (setL ((itD (out_2410) (it2413))) (i_2384) ((itD (column_2385) (it2413))))) fun y2433 => .ok (y2433)

def F__law_passes_r5 (out_2451 : (List (List Int))) : Rx ((List (List Int))) :=
  .ok (out_2451)

def F__law_passes_b3 (size_2271 : Int) (middle_2272 : (List (List Int))) (out_2293 : (List (List Int))) (it2296 : Int) : Rx ((List (List Int))) :=
  grd (-(2 ^ 62) ≤ size_2271 ∧ size_2271 < 2 ^ 62) <| Rx.bind (mapA (rng (0) (Int.toNat (size_2271))) [] (fun x => noEr (F__law_passes_c4 (middle_2272) (it2296) x))) fun v2300 => Rx.bind (F_forward (v2300)) fun v2374 => grd (-(2 ^ 62) ≤ size_2271 ∧ size_2271 < 2 ^ 62) <| Rx.bind (forS (rng (0) (Int.toNat (size_2271))) (out_2293) (fun s x => F__law_passes_b5 (it2296) (v2374) s x)) fun s => F__law_passes_r5  s

def F__law_passes_r3 (out_2463 : (List (List Int))) : Rx (List (List Int)) :=
  .ok (out_2463)

def F__law_passes (rows' : (List (List Int))) (size' : Int) : Rx (List (List Int)) :=
  Rx.bind (mapA (rows') [] (fun x => noEr (F__law_passes_c1  x))) fun v2110 => grd (-(2 ^ 62) ≤ size' ∧ size' < 2 ^ 62) <| Rx.bind (mapA (rng (0) (Int.toNat (size'))) [] (fun x => noEr (F__law_passes_c2 (size') x))) fun v2194 => grd (-(2 ^ 62) ≤ size' ∧ size' < 2 ^ 62) <| Rx.bind (forS (rng (0) (Int.toNat (size'))) (v2194) (fun s x => F__law_passes_b3 (size') (v2110) s x)) fun s => F__law_passes_r3  s

def F__law_refused_k2 (told_2500 : Int) : Rx Bool :=
  .ok (decide ((told_2500 : Int) = 2))

def F__law_refused_k1 (rows_2468 : (List (List Int))) (told_2469 : Int) : Rx Bool :=
  Rx.bind ((tryR (F_inverse_square (rows_2468)) [1] (fun v2504 => .ok (told_2469)) (fun _ => bnd ((told_2469 + 1)) fun told_2526 => .ok (told_2526)) : Rx (Int))) fun s => F__law_refused_k2  s

def F__law_refused (rows' : (List (List Int))) : Rx Bool :=
  Rx.bind ((tryR (F_forward_square (rows')) [1] (fun v2473 => .ok (0)) (fun _ => bnd ((0 + 1)) fun told_2495 => .ok (told_2495)) : Rx (Int))) fun s => F__law_refused_k1 (rows') s

def F_law_c3 (it2758 : Int) : Rx Int :=
  .ok ((if it2758 < 0 then -it2758 else it2758))

def F_law_c2 (it2701 : (List Int)) : Rx Int :=
  Rx.bind (mapA (it2701) [] (fun x => noEr (F_law_c3  x))) fun v2702 => grd ((v2702 : List Int) ≠ []) <| .ok ((maxL (v2702)))

def F_law_b5 (greatest_2853 : Int) (it2878 : Int) : Rx (Lp Unit Bool) :=
  (if ((64 * greatest_2853) + 72) < (if it2878 < 0 then -it2878 else it2878) then .ok (.rt (false)) else .ok (.go ()))

def F_law_r5  : Rx (Lp Unit Bool) :=
  .ok (.go ())

def F_law_b4 (greatest_2816 : Int) (it2852 : (List Int)) : Rx (Lp Unit Bool) :=
  Rx.bind (forR (it2852) () (fun s x => F_law_b5 (greatest_2816)  x)) fun l => l.aft (fun r => .ok (.rt r)) fun s => F_law_r5  

def F_law_c6 (it3052 : (List Int)) : Rx (List Int) :=
  .ok it3052

def F_law_c8 (it3320 : (List Int)) : Rx (List Int) :=
  .ok it3320

def F_law_c9 (size_3410 : Int) (it3459 : Int) : Rx (List Int) :=
  grd (-(2 ^ 63) ≤ ((12 - size_3410) : Int) ∧ ((12 - size_3410) : Int) < 2 ^ 63 ∧ ([0]).length * Int.toNat ((12 - size_3410)) ≤ 1000000) <| .ok (repL ([0]) ((12 - size_3410)))

def F_law_c11 (wrong_3585 : Int) (it3634 : Int) : Rx (List Int) :=
  grd (-(2 ^ 63) ≤ (wrong_3585 : Int) ∧ (wrong_3585 : Int) < 2 ^ 63 ∧ ([0]).length * Int.toNat (wrong_3585) ≤ 1000000) <| .ok (repL ([0]) (wrong_3585))

def F_law_k10 (bad_3528 : (List (List Int))) (wrong_3529 : Int) : Rx (Lp Unit Bool) :=
  Rx.bind (F__law_refused (bad_3528)) fun v3579 => (if v3579 = true then grd (-(2 ^ 62) ≤ wrong_3529 ∧ wrong_3529 < 2 ^ 62) <| Rx.bind (mapA (rng (0) (Int.toNat (wrong_3529))) [] (fun x => noEr (F_law_c11 (wrong_3529) x))) fun v3586 => Rx.bind (F__law_refused (v3586)) fun v3697 => (if v3697 = true then .ok (.go ()) else .ok (.rt (false))) else .ok (.rt (false)))

def F_law_k7 (cell_3098 : Int) (size_3099 : Int) (rows_3100 : (List (List Int))) (other_3101 : (List (List Int))) (bad_3102 : (List (List Int))) : Rx (Lp Unit Bool) :=
  Rx.bind (mapA (rows_3100) [] (fun x => noEr (F_law_c8  x))) fun v3243 => grd (-(2 ^ 63) ≤ ((12 - size_3099) : Int) ∧ ((12 - size_3099) : Int) < 2 ^ 63 ∧ ([0]).length * Int.toNat ((12 - size_3099)) ≤ 1000000) <| grd (0 < (size_3099 : Int)) <| grd (-((v3243).length : Int) ≤ ((cell_3098 / 45) % size_3099) ∧ ((cell_3098 / 45) % size_3099) < ((v3243).length : Int)) <| bnd (setL (v3243) (((cell_3098 / 45) % size_3099)) (repL ([0]) ((12 - size_3099)))) fun y3403 => Rx.bind (F__law_refused (y3403)) fun v3404 => (if v3404 = true then grd (-(2 ^ 62) ≤ size_3099 ∧ size_3099 < 2 ^ 62) <| Rx.bind (mapA (rng (0) (Int.toNat (size_3099))) [] (fun x => noEr (F_law_c9 (size_3099) x))) fun v3411 => Rx.bind (F__law_refused (v3411)) fun v3522 => (if v3522 = true then bnd (((cell_3098 / 45) % 12)) fun wrong_3527 => Rx.bind (((if (wrong_3527 : Int) = 4 then .ok (0) else (if (wrong_3527 : Int) = 8 then .ok (0) else .ok (wrong_3527))) : Rx (Int))) fun s => F_law_k10 (bad_3102) s else .ok (.rt (false))) else .ok (.rt (false)))

def F_law_r4 (cell_2817 : Int) (size_2818 : Int) (rows_2819 : (List (List Int))) (kept_2820 : Str) (turned_2821 : (List (List Int))) : Rx (Lp Unit Bool) :=
  Rx.bind (F_inverse_square (turned_2821)) fun v2896 => Rx.bind (F_inverse_square (rows_2819)) fun v2917 => Rx.bind (F__law_is_square (v2896) size_2818) fun v2938 => (if v2938 = true then (if (v2896 : (List (List Int))) = rows_2819 then grd (ShowOk ((encL (encL PyData.int)) (rows_2819))) <| (if V.str ((PyData.shown ((encL (encL PyData.int)) (rows_2819)))) = V.str (kept_2820) then Rx.bind (F__law_is_square (v2917) size_2818) fun v2952 => (if v2952 = true then Rx.bind (F_forward_square (v2917)) fun v2959 => (if (v2959 : (List (List Int))) = rows_2819 then Rx.bind (mapA (rows_2819) [] (fun x => noEr (F_law_c6  x))) fun v2981 => Rx.bind (((if (((cell_2817 / 5) % 3) : Int) = 0 then grd (-(2 ^ 63) ≤ (size_2818 : Int) ∧ (size_2818 : Int) < 2 ^ 63 ∧ ([0]).length * Int.toNat (size_2818) ≤ 1000000) <| grd ((v2981).length ≤ 1000000) <| bnd ((v2981) ++ [repL ([0]) (size_2818)]) fun y3138 => .ok (y3138) else (if (((cell_2817 / 5) % 3) : Int) = 1 then grd (0 < (size_2818 : Int)) <| grd (-((v2981).length : Int) ≤ ((cell_2817 / 15) % size_2818) ∧ ((cell_2817 / 15) % size_2818) < ((v2981).length : Int)) <| grd (((itD (v2981) (((cell_2817 / 15) % size_2818)))).length ≤ 1000000) <| bnd (setL (v2981) (((cell_2817 / 15) % size_2818)) (((itD (v2981) (((cell_2817 / 15) % size_2818)))) ++ [0])) fun y3167 => .ok (y3167) else grd (0 < (size_2818 : Int)) <| grd (-((v2981).length : Int) ≤ ((cell_2817 / 15) % size_2818) ∧ ((cell_2817 / 15) % size_2818) < ((v2981).length : Int)) <| grd (0 < (size_2818 : Int)) <| grd (-((v2981).length : Int) ≤ ((cell_2817 / 15) % size_2818) ∧ ((cell_2817 / 15) % size_2818) < ((v2981).length : Int)) <| bnd (setL (v2981) (((cell_2817 / 15) % size_2818)) (cutL ((itD (v2981) (((cell_2817 / 15) % size_2818)))) (some (1)) none)) fun y3211 => .ok (y3211))) : Rx ((List (List Int))))) fun s => F_law_k7 (cell_2817) (size_2818) (rows_2819) (v2917) s else .ok (.rt (false))) else .ok (.rt (false))) else .ok (.rt (false))) else .ok (.rt (false))) else .ok (.rt (false)))

def F_law_b1 (script_2532 : (List Int)) (it2556 : Int) : Rx (Lp Unit Bool) :=
  Rx.bind (F__law_cell (script_2532) it2556) fun v2557 => bnd ((v2557 + it2556)) fun cell_2558 => bnd ((4 + (4 * (cell_2558 % 2)))) fun size_2559 => grd (-(([1, 255, 4095, 1000000000]).length : Int) ≤ ((cell_2558 / 2) % 4) ∧ ((cell_2558 / 2) % 4) < (([1, 255, 4095, 1000000000]).length : Int)) <| bnd ((itD ([1, 255, 4095, 1000000000]) (((cell_2558 / 2) % 4)))) fun most_2570 => Rx.bind (F__law_rows ((cell_2558 / 8)) size_2559 most_2570) fun v2571 => grd (ShowOk ((encL (encL PyData.int)) (v2571))) <| Rx.bind (F_forward_square (v2571)) fun v2591 => Rx.bind (F__law_is_square (v2591) size_2559) fun v2610 => (if v2610 = true then grd (ShowOk ((encL (encL PyData.int)) (v2571))) <| (if V.str ((PyData.shown ((encL (encL PyData.int)) (v2571)))) = V.str ((PyData.shown ((encL (encL PyData.int)) (v2571)))) then Rx.bind (F__law_passes (v2571) size_2559) fun v2619 => (if (v2591 : (List (List Int))) = v2619 then Rx.bind (mapA (v2571) [] (fun x => noEr (F_law_c2  x))) fun v2642 => grd ((v2642 : List Int) ≠ []) <| bnd ((maxL (v2642))) fun greatest_2815 => Rx.bind (forR (v2591) () (fun s x => F_law_b4 (greatest_2815)  x)) fun l => l.aft (fun r => .ok (.rt r)) fun s => F_law_r4 (cell_2558) (size_2559) (v2571) ((PyData.shown ((encL (encL PyData.int)) (v2571)))) (v2591)  else .ok (.rt (false))) else .ok (.rt (false))) else .ok (.rt (false)))

def F_law_r1  : Rx Bool :=
  .ok (true)

def F_law (script' : (List Int)) : Rx Bool :=
  grd (-(2 ^ 62) ≤ (if 5 < (1 + (((script') : (List Int)).length : Int)) then 5 else (1 + (((script') : (List Int)).length : Int))) ∧ (if 5 < (1 + (((script') : (List Int)).length : Int)) then 5 else (1 + (((script') : (List Int)).length : Int))) < 2 ^ 62) <| Rx.bind (forR (rng (0) (Int.toNat ((if 5 < (1 + (((script') : (List Int)).length : Int)) then 5 else (1 + (((script') : (List Int)).length : Int)))))) () (fun s x => F_law_b1 (script')  x)) fun l => l.aft Rx.ok fun s => F_law_r1  
theorem cell_gv (s : List Int) (k : Int) (h : 0 ≤ k) : Gv (F__law_cell s k) (fun v => 0 ≤ v) := by
  unfold F__law_cell
  refine Gv.ite (fun c => Gv.grd ⟨by omega, c⟩ (.ok ?_)) fun _ => .ok (by decide)
  split <;> omega
theorem all_snoc {P : Int → Prop} {xs : List Int} {y : Int} (h : ∀ x ∈ xs, P x) (hy : P y) : ∀ x ∈ xs ++ [y], P x := fun x hx => by
  rcases List.mem_append.mp hx with q | q
  · exact h x q
  · rw [List.mem_singleton.mp q]
    exact hy
theorem digits_gv (cell base most : Int) (h0 : 0 < base) (h1 : base < 2 ^ 64) (hm : 0 ≤ most) (hm2 : most ≤ 1000) : Gv (F__law_digits cell base most) (fun v => (v.length : Int) = most ∧ ∀ x ∈ v, 0 ≤ x ∧ x < base) := by
  unfold F__law_digits
  refine Gv.bnd fun large _ => Gv.grd ⟨by omega, by omega⟩ (Gv.bind (Gv.forS (P := fun i s => s.2.length = i ∧ ∀ x ∈ s.2, 0 ≤ x ∧ x < base) ⟨rfl, fun x hx => by cases hx⟩ fun i x s hx p => ?_) fun s p => .ok ⟨?_, p.2⟩)
  · obtain ⟨rfl, hi⟩ := rng_at hx
    have hl := p.1
    unfold F__law_digits_b1
    refine Gv.ite (fun _ => Gv.grd h0 (Gv.grd (by omega) (Gv.bnd fun y hy => Gv.grd ⟨h0, by omega⟩ (Gv.bnd fun c _ => .ok ?_)))) fun _ => Gv.grd ?_ (Gv.grd ?_ (Gv.grd h0 (Gv.grd (by omega) (Gv.bnd fun y hy => .ok ?_))))
    · subst hy
      exact ⟨by rw [List.length_append, hl]; rfl, all_snoc p.2 ⟨Int.emod_nonneg _ (by omega), Int.emod_lt_of_pos _ h0⟩⟩
    · left
      omega
    · right
      omega
    · subst hy
      exact ⟨by rw [List.length_append, hl]; rfl, all_snoc p.2 ⟨Int.emod_nonneg _ (by omega), Int.emod_lt_of_pos _ h0⟩⟩
  · have := p.1
    rw [rng_len] at this
    omega
theorem itD_lit {xs : List Int} {a k : Int} (n : Nat) (e : k = (n : Int)) (h : xs[n]? = some a) : itD xs k = a := by
  subst e
  have hl := get_len h
  unfold itD atI ixN
  rw [if_pos (by omega), if_pos (by omega)]
  show (xs[n]?).getD default = a
  rw [h]
  rfl
theorem ixl {xs : List Int} {k : Int} (n : Nat) (e : xs.length = n) (h0 : 0 ≤ k) (h : k < n) : -(xs.length : Int) ≤ k ∧ k < xs.length := by
  rw [e]
  omega
theorem itD_some {α : Type} [Inhabited α] {xs : List α} {k : Int} (h : -(xs.length : Int) ≤ k ∧ k < xs.length) : ∃ j : Nat, xs[j]? = some (itD xs k) := by
  obtain ⟨j, e, hj⟩ := ixN_some h
  refine ⟨j, ?_⟩
  unfold itD atI
  rw [e, List.getElem?_eq_getElem hj]
  show some xs[j] = some ((xs[j]?).getD default)
  rw [List.getElem?_eq_getElem hj] <;> rfl
theorem itD_mem {α : Type} [Inhabited α] {xs : List α} {k : Int} (h : -(xs.length : Int) ≤ k ∧ k < xs.length) : itD xs k ∈ xs := by
  obtain ⟨j, e⟩ := itD_some h
  exact List.mem_of_getElem? e
theorem itD_map {α β : Type} [Inhabited α] [Inhabited β] {xs : List α} {f : α → β} {k : Int} (h : -(xs.length : Int) ≤ k ∧ k < xs.length) : itD (xs.map f) k = f (itD xs k) := by
  obtain ⟨j, e, hj⟩ := ixN_some h
  unfold itD atI
  rw [List.length_map, e]
  show ((xs.map f)[j]?).getD default = f ((xs[j]?).getD default)
  rw [List.getElem?_map, List.getElem?_eq_getElem hj] <;> rfl
theorem itD_nat {α : Type} [Inhabited α] {xs : List α} {k : Int} {j : Nat} (e : k = (j : Int)) (h : j < xs.length) : itD xs k = xs[j] := by
  subst e
  unfold itD atI ixN
  rw [if_pos (by omega), if_pos (by omega)]
  show (xs[j]?).getD default = _
  rw [List.getElem?_eq_getElem h] <;> rfl
theorem setL_mem {α : Type} {xs : List α} {k : Int} {y z : α} (h : z ∈ setL xs k y) : z ∈ xs ∨ z = y := by
  unfold setL at h
  exact List.mem_or_eq_of_mem_set h
theorem setL_len {α : Type} {xs : List α} {k : Int} {y : α} : (setL xs k y).length = xs.length := by
  unfold setL
  rw [List.length_set]
def sl (a b : Int) : Int := (a + b) / 2
def sh (a b : Int) : Int := a - b
def j0 (l h : Int) : Int := l + (h + 1) / 2
def j1 (l h : Int) : Int := j0 l h - h
def tS (f s o : Int) : Int := s + (o * f + 16) / 32
def t1 (f s o i : Int) : Int := f - (i * tS f s o + 16) / 32
def t2 (f s o i : Int) : Int := tS (t1 f s o i) (tS f s o) o
def bS (f s o : Int) : Int := s - (o * f + 16) / 32
def b1 (f s o i : Int) : Int := f + (i * bS f s o + 16) / 32
def b2 (f s o i : Int) : Int := bS (b1 f s o i) (bS f s o) o
theorem js0 (a b : Int) : j0 (sl a b) (sh a b) = a := by unfold j0 sl sh; omega
theorem js1 (a b : Int) : j1 (sl a b) (sh a b) = b := by unfold j1 j0 sl sh; omega
theorem sj0 (l h : Int) : sl (j0 l h) (j1 l h) = l := by unfold j1 j0 sl; omega
theorem sj1 (l h : Int) : sh (j0 l h) (j1 l h) = h := by unfold j1 j0 sh; omega
theorem bt (f s o : Int) : bS f (tS f s o) o = s := by unfold bS tS; omega
theorem tb (f s o : Int) : tS f (bS f s o) o = s := by unfold bS tS; omega
theorem bt1 (f s o i : Int) : b1 (t1 f s o i) (t2 f s o i) o i = f := by
  unfold b1 t2
  rw [bt]
  unfold t1
  omega
theorem bt2 (f s o i : Int) : b2 (t1 f s o i) (t2 f s o i) o i = s := by
  unfold b2
  rw [bt1]
  unfold t2
  rw [bt, bt]
theorem tb1 (f s o i : Int) : t1 (b1 f s o i) (b2 f s o i) o i = f := by
  unfold t1 b2
  rw [tb]
  unfold b1
  omega
theorem tb2 (f s o i : Int) : t2 (b1 f s o i) (b2 f s o i) o i = s := by
  unfold t2
  rw [tb1]
  unfold b2
  rw [tb, tb]
def f4 (a b c d : Int) : List Int := [sl (sl a d) (sl b c), t1 (sh a d) (sh b c) 6 12, sh (sl a d) (sl b c), t2 (sh a d) (sh b c) 6 12]
def i4 (c0 c1 c2 c3 : Int) : List Int := [j0 (j0 c0 c2) (b1 c1 c3 6 12), j0 (j1 c0 c2) (b2 c1 c3 6 12), j1 (j1 c0 c2) (b2 c1 c3 6 12), j1 (j0 c0 c2) (b1 c1 c3 6 12)]
theorem split_eq (a b : Int) : F_split_pair a b = .ok (sl a b, sh a b) := rfl
theorem join_eq (l h : Int) : F_join_pair l h = .ok (j0 l h, j1 l h) := rfl
theorem sm {o : Int} {p : Prop} (h0 : 0 ≤ o) (h1 : o < 64) : (-(2 ^ 64) < o ∧ o < 2 ^ 64) ∨ p := .inl ⟨by omega, by omega⟩
theorem turn_eq {o i : Int} (f s : Int) (ho : 0 ≤ o ∧ o < 64) (hi : 0 ≤ i ∧ i < 64) : F_turn_pair f s o i = .ok (t1 f s o i, t2 f s o i) := by
  unfold F_turn_pair
  rw [grd_pos (sm ho.1 ho.2), bnd_eq, grd_pos (sm hi.1 hi.2), bnd_eq, grd_pos (sm ho.1 ho.2), bnd_eq]
  rfl
theorem back_eq {o i : Int} (f s : Int) (ho : 0 ≤ o ∧ o < 64) (hi : 0 ≤ i ∧ i < 64) : F_turn_back f s o i = .ok (b1 f s o i, b2 f s o i) := by
  unfold F_turn_back
  rw [grd_pos (sm ho.1 ho.2), bnd_eq, grd_pos (sm hi.1 hi.2), bnd_eq, grd_pos (sm ho.1 ho.2), bnd_eq]
  rfl
theorem four_eq (a b c d : Int) : F__forward_four [a, b, c, d] = .ok (f4 a b c d) := by
  unfold F__forward_four
  rw [grd_pos (show [a, b, c, d].length = 4 from rfl), itD_lit (k := 0) (a := a) 0 rfl rfl, itD_lit (k := 1) (a := b) 1 rfl rfl, itD_lit (k := 2) (a := c) 2 rfl rfl, itD_lit (k := 3) (a := d) 3 rfl rfl]
  show F__forward_four_k1 a b c d = _
  unfold F__forward_four_k1
  rw [split_eq]
  show F__forward_four_k2 b c (sl a d) (sh a d) = _
  unfold F__forward_four_k2
  rw [split_eq]
  show F__forward_four_k3 (sl a d) (sh a d) (sl b c) (sh b c) = _
  unfold F__forward_four_k3
  rw [split_eq]
  show F__forward_four_k4 (sh a d) (sh b c) (sl (sl a d) (sl b c)) (sh (sl a d) (sl b c)) = _
  unfold F__forward_four_k4
  rw [turn_eq _ _ ⟨by decide, by decide⟩ ⟨by decide, by decide⟩]
  rfl
theorem inv4_eq (a b c d : Int) : F__inverse_four [a, b, c, d] = .ok (i4 a b c d) := by
  unfold F__inverse_four
  rw [grd_pos (show [a, b, c, d].length = 4 from rfl), itD_lit (k := 0) (a := a) 0 rfl rfl, itD_lit (k := 1) (a := b) 1 rfl rfl, itD_lit (k := 2) (a := c) 2 rfl rfl, itD_lit (k := 3) (a := d) 3 rfl rfl]
  show F__inverse_four_k1 a b c d = _
  unfold F__inverse_four_k1
  rw [back_eq _ _ ⟨by decide, by decide⟩ ⟨by decide, by decide⟩]
  show F__inverse_four_k2 a c (b1 b d 6 12) (b2 b d 6 12) = _
  unfold F__inverse_four_k2
  rw [join_eq]
  show F__inverse_four_k3 (b1 b d 6 12) (b2 b d 6 12) (j0 a c) (j1 a c) = _
  unfold F__inverse_four_k3
  rw [join_eq]
  show F__inverse_four_k4 (b1 b d 6 12) (j0 a c) (j0 (j1 a c) (b2 b d 6 12)) (j1 (j1 a c) (b2 b d 6 12)) = _
  unfold F__inverse_four_k4
  rw [join_eq]
  rfl
theorem mapA4 {α β : Type} {f : α → Rx β} {a b c d : α} {p q r s : β} (h1 : f a = .ok p) (h2 : f b = .ok q) (h3 : f c = .ok r) (h4 : f d = .ok s) : mapA [a, b, c, d] [] f = .ok [p, q, r, s] := by
  simp [mapA, grd, h1, h2, h3, h4, Rx.bind]
theorem noE {α : Type} {m : Rx α} {a : α} (h : m = .ok a) : noEr m = .ok a := by rw [h]; rfl
theorem rng4 : rng 0 (Int.toNat 4) = [0, 1, 2, 3] := by decide
def f8 (x0 x1 x2 x3 x4 x5 x6 x7 : Int) : List Int :=
  [sl (sl (sl x0 x7) (sl x3 x4)) (sl (sl x1 x6) (sl x2 x5)),
   sl (t1 (sh x0 x7) (sh x3 x4) 3 6) (t1 (sh x1 x6) (sh x2 x5) 10 18),
   t1 (sh (sl x0 x7) (sl x3 x4)) (sh (sl x1 x6) (sl x2 x5)) 6 12,
   sl (t2 (sh x1 x6) (sh x2 x5) 10 18) (t2 (sh x0 x7) (sh x3 x4) 3 6),
   sh (sl (sl x0 x7) (sl x3 x4)) (sl (sl x1 x6) (sl x2 x5)),
   sh (t1 (sh x0 x7) (sh x3 x4) 3 6) (t1 (sh x1 x6) (sh x2 x5) 10 18),
   t2 (sh (sl x0 x7) (sl x3 x4)) (sh (sl x1 x6) (sl x2 x5)) 6 12,
   sh (t2 (sh x1 x6) (sh x2 x5) 10 18) (t2 (sh x0 x7) (sh x3 x4) 3 6)]
section
variable (x0 x1 x2 x3 x4 x5 x6 x7 : Int)
theorem c2_eq {L : List Int} {k a b : Int} (n m : Nat) (hl : L.length = 8) (hk : k = n) (hm : 7 - k = m) (h1 : L[n]? = some a) (h2 : L[m]? = some b) : F__forward_eight_c2 L k = .ok (sl a b, sh a b) := by
  unfold F__forward_eight_c2
  have g1 := get_len h1
  have g2 := get_len h2
  rw [grd_pos (ixl 8 hl (by omega) (by omega)), grd_pos (ixl 8 hl (by omega) (by omega)), itD_lit n hk h1, itD_lit m hm h2]
  rfl
theorem eight_eq : F__forward_eight [x0, x1, x2, x3, x4, x5, x6, x7] = .ok (f8 x0 x1 x2 x3 x4 x5 x6 x7) := by
  unfold F__forward_eight
  rw [rng4, mapA4 (f := fun x => noEr (F__forward_eight_c2 [x0, x1, x2, x3, x4, x5, x6, x7] x)) (a := (0 : Int)) (b := 1) (c := 2) (d := 3) (p := (sl x0 x7, sh x0 x7)) (q := (sl x1 x6, sh x1 x6)) (r := (sl x2 x5, sh x2 x5)) (s := (sl x3 x4, sh x3 x4)) (noE (c2_eq 0 7 rfl rfl rfl rfl rfl)) (noE (c2_eq 1 6 rfl rfl rfl rfl rfl)) (noE (c2_eq 2 5 rfl rfl rfl rfl rfl)) (noE (c2_eq 3 4 rfl rfl rfl rfl rfl))]
  show F__forward_eight_k1 [(sl x0 x7, sh x0 x7), (sl x1 x6, sh x1 x6), (sl x2 x5, sh x2 x5), (sl x3 x4, sh x3 x4)] = _
  unfold F__forward_eight_k1
  rw [mapA4 (f := fun x => noEr (F__forward_eight_c4 x)) (p := sh x0 x7) (q := sh x1 x6) (r := sh x2 x5) (s := sh x3 x4) rfl rfl rfl rfl, bind_ok, grd_pos (show [sh x0 x7, sh x1 x6, sh x2 x5, sh x3 x4].length = 4 from rfl)]
  rw [itD_lit (k := 0) (a := sh x0 x7) 0 rfl rfl, itD_lit (k := 1) (a := sh x1 x6) 1 rfl rfl, itD_lit (k := 2) (a := sh x2 x5) 2 rfl rfl, itD_lit (k := 3) (a := sh x3 x4) 3 rfl rfl]
  show F__forward_eight_k3 [(sl x0 x7, sh x0 x7), (sl x1 x6, sh x1 x6), (sl x2 x5, sh x2 x5), (sl x3 x4, sh x3 x4)] (sh x0 x7) (sh x1 x6) (sh x2 x5) (sh x3 x4) = _
  unfold F__forward_eight_k3
  rw [mapA4 (f := fun x => noEr (F__forward_eight_c6 x)) (p := sl x0 x7) (q := sl x1 x6) (r := sl x2 x5) (s := sl x3 x4) rfl rfl rfl rfl, bind_ok, four_eq, bind_ok]
  unfold f4
  generalize h0 : sh x0 x7 = y0
  generalize h1 : sh x1 x6 = y1
  generalize h2 : sh x2 x5 = y2
  generalize h3 : sh x3 x4 = y3
  generalize g0 : sl x0 x7 = z0
  generalize g1 : sl x1 x6 = z1
  generalize g2 : sl x2 x5 = z2
  generalize g3 : sl x3 x4 = z3
  rw [grd_pos (show [sl (sl z0 z3) (sl z1 z2), t1 (sh z0 z3) (sh z1 z2) 6 12, sh (sl z0 z3) (sl z1 z2), t2 (sh z0 z3) (sh z1 z2) 6 12].length = 4 from rfl)]
  rw [itD_lit (k := 0) (a := sl (sl z0 z3) (sl z1 z2)) 0 rfl rfl, itD_lit (k := 1) (a := t1 (sh z0 z3) (sh z1 z2) 6 12) 1 rfl rfl, itD_lit (k := 2) (a := sh (sl z0 z3) (sl z1 z2)) 2 rfl rfl, itD_lit (k := 3) (a := t2 (sh z0 z3) (sh z1 z2) 6 12) 3 rfl rfl]
  show F__forward_eight_k5 y0 y1 y2 y3 (sl (sl z0 z3) (sl z1 z2)) (t1 (sh z0 z3) (sh z1 z2) 6 12) (sh (sl z0 z3) (sl z1 z2)) (t2 (sh z0 z3) (sh z1 z2) 6 12) = _
  unfold F__forward_eight_k5
  rw [turn_eq _ _ ⟨by decide, by decide⟩ ⟨by decide, by decide⟩]
  show F__forward_eight_k7 y1 y2 _ _ _ _ (t1 y0 y3 3 6) (t2 y0 y3 3 6) = _
  unfold F__forward_eight_k7
  rw [turn_eq _ _ ⟨by decide, by decide⟩ ⟨by decide, by decide⟩]
  show F__forward_eight_k8 _ _ _ _ (t1 y0 y3 3 6) (t2 y0 y3 3 6) (t1 y1 y2 10 18) (t2 y1 y2 10 18) = _
  unfold F__forward_eight_k8
  rw [split_eq]
  show F__forward_eight_k9 _ _ _ _ (t2 y0 y3 3 6) (t2 y1 y2 10 18) (sl (t1 y0 y3 3 6) (t1 y1 y2 10 18)) (sh (t1 y0 y3 3 6) (t1 y1 y2 10 18)) = _
  unfold F__forward_eight_k9
  rw [split_eq]
  show Rx.ok [_, _, _, _, _, _, _, _] = _
  unfold f8
  rw [h0, h1, h2, h3, g0, g1, g2, g3]
end
def i8 (e0 f0 e1 f2 e2 f1 e3 f3 : Int) : List Int :=
  [j0 (j0 (j0 e0 e2) (b1 e1 e3 6 12)) (b1 (j0 f0 f1) (j1 f2 f3) 3 6), j0 (j0 (j1 e0 e2) (b2 e1 e3 6 12)) (b1 (j1 f0 f1) (j0 f2 f3) 10 18),
   j0 (j1 (j1 e0 e2) (b2 e1 e3 6 12)) (b2 (j1 f0 f1) (j0 f2 f3) 10 18), j0 (j1 (j0 e0 e2) (b1 e1 e3 6 12)) (b2 (j0 f0 f1) (j1 f2 f3) 3 6),
   j1 (j1 (j0 e0 e2) (b1 e1 e3 6 12)) (b2 (j0 f0 f1) (j1 f2 f3) 3 6), j1 (j1 (j1 e0 e2) (b2 e1 e3 6 12)) (b2 (j1 f0 f1) (j0 f2 f3) 10 18),
   j1 (j0 (j1 e0 e2) (b2 e1 e3 6 12)) (b1 (j1 f0 f1) (j0 f2 f3) 10 18), j1 (j0 (j0 e0 e2) (b1 e1 e3 6 12)) (b1 (j0 f0 f1) (j1 f2 f3) 3 6)]
theorem inv8_eq (e0 f0 e1 f2 e2 f1 e3 f3 : Int) : F__inverse_eight [e0, f0, e1, f2, e2, f1, e3, f3] = .ok (i8 e0 f0 e1 f2 e2 f1 e3 f3) := by
  unfold F__inverse_eight
  rw [grd_pos (show [e0, f0, e1, f2, e2, f1, e3, f3].length = 8 from rfl), itD_lit (k := 0) (a := e0) 0 rfl rfl, itD_lit (k := 1) (a := f0) 1 rfl rfl, itD_lit (k := 2) (a := e1) 2 rfl rfl, itD_lit (k := 3) (a := f2) 3 rfl rfl,
    itD_lit (k := 4) (a := e2) 4 rfl rfl, itD_lit (k := 5) (a := f1) 5 rfl rfl, itD_lit (k := 6) (a := e3) 6 rfl rfl, itD_lit (k := 7) (a := f3) 7 rfl rfl]
  show F__inverse_eight_k1 e0 f0 e1 f2 e2 f1 e3 f3 = _
  unfold F__inverse_eight_k1
  rw [join_eq]
  show F__inverse_eight_k2 e0 f0 e1 e2 f1 e3 (j0 f2 f3) (j1 f2 f3) = _
  unfold F__inverse_eight_k2
  rw [join_eq]
  show F__inverse_eight_k3 e0 e1 e2 e3 (j0 f2 f3) (j1 f2 f3) (j0 f0 f1) (j1 f0 f1) = _
  unfold F__inverse_eight_k3
  rw [back_eq _ _ ⟨by decide, by decide⟩ ⟨by decide, by decide⟩]
  unfold i8
  generalize j0 f2 f3 = d2
  generalize j1 f2 f3 = d3
  generalize j0 f0 f1 = d0
  generalize j1 f0 f1 = d1
  generalize b1 d1 d2 10 18 = h1
  generalize b2 d1 d2 10 18 = h2
  show F__inverse_eight_k4 e0 e1 e2 e3 d3 d0 h1 h2 = _
  unfold F__inverse_eight_k4
  rw [back_eq _ _ ⟨by decide, by decide⟩ ⟨by decide, by decide⟩]
  generalize b1 d0 d3 3 6 = h0
  generalize b2 d0 d3 3 6 = h3
  show F__inverse_eight_k5 e0 e1 e2 e3 h1 h2 h0 h3 = _
  unfold F__inverse_eight_k5
  rw [inv4_eq]
  unfold i4
  generalize j0 (j0 e0 e2) (b1 e1 e3 6 12) = z0
  generalize j0 (j1 e0 e2) (b2 e1 e3 6 12) = z1
  generalize j1 (j1 e0 e2) (b2 e1 e3 6 12) = z2
  generalize j1 (j0 e0 e2) (b1 e1 e3 6 12) = z3
  show F__inverse_eight_k6 h1 h2 h0 h3 [z0, z1, z2, z3] = _
  unfold F__inverse_eight_k6
  rw [grd_pos (show [z0, z1, z2, z3].length = [h0, h1, h2, h3].length from rfl), show List.zip [z0, z1, z2, z3] [h0, h1, h2, h3] = [(z0, h0), (z1, h1), (z2, h2), (z3, h3)] from rfl,
    mapA4 (f := fun x => noEr (F__inverse_eight_c8 x)) (p := (j0 z0 h0, j1 z0 h0)) (q := (j0 z1 h1, j1 z1 h1)) (r := (j0 z2 h2, j1 z2 h2)) (s := (j0 z3 h3, j1 z3 h3)) rfl rfl rfl rfl]
  show F__inverse_eight_k7 [(j0 z0 h0, j1 z0 h0), (j0 z1 h1, j1 z1 h1), (j0 z2 h2, j1 z2 h2), (j0 z3 h3, j1 z3 h3)] = _
  unfold F__inverse_eight_k7
  rw [mapA4 (f := fun x => noEr (F__inverse_eight_c9 x)) (p := j0 z0 h0) (q := j0 z1 h1) (r := j0 z2 h2) (s := j0 z3 h3) rfl rfl rfl rfl, bind_ok,
    show [(j0 z0 h0, j1 z0 h0), (j0 z1 h1, j1 z1 h1), (j0 z2 h2, j1 z2 h2), (j0 z3 h3, j1 z3 h3)].reverse = [(j0 z3 h3, j1 z3 h3), (j0 z2 h2, j1 z2 h2), (j0 z1 h1, j1 z1 h1), (j0 z0 h0, j1 z0 h0)] from rfl,
    mapA4 (f := fun x => noEr (F__inverse_eight_c10 x)) (p := j1 z3 h3) (q := j1 z2 h2) (r := j1 z1 h1) (s := j1 z0 h0) rfl rfl rfl rfl, bind_ok, grd_pos (show [j0 z0 h0, j0 z1 h1, j0 z2 h2, j0 z3 h3].length + [j1 z3 h3, j1 z2 h2, j1 z1 h1, j1 z0 h0].length ≤ 1000000 from by show 4 + 4 ≤ 1000000; decide)]
  rfl
theorem size4 : F_check_size (4 : Int) = .ok () := by
  unfold F_check_size
  rw [if_pos (by decide)]
theorem size8 : F_check_size (8 : Int) = .ok () := by
  unfold F_check_size
  rw [if_pos (by decide)]
theorem size_er {n : Int} (h4 : n ≠ 4) (h8 : n ≠ 8) : F_check_size n = .er 1 := by
  unfold F_check_size
  rw [if_neg (by simp [h4, h8])]
theorem F4 (a b c d : Int) : F_forward [a, b, c, d] = .ok (f4 a b c d) := by
  unfold F_forward
  show (F_check_size (4 : Int)).bind _ = _
  rw [size4, bind_ok, if_pos (show ((([a, b, c, d] : List Int).length : Nat) : Int) = 4 from rfl), four_eq, bind_ok]
theorem I4 (a b c d : Int) : F_inverse [a, b, c, d] = .ok (i4 a b c d) := by
  unfold F_inverse
  show (F_check_size (4 : Int)).bind _ = _
  rw [size4, bind_ok, if_pos (show ((([a, b, c, d] : List Int).length : Nat) : Int) = 4 from rfl), inv4_eq, bind_ok]
theorem F8 (x0 x1 x2 x3 x4 x5 x6 x7 : Int) : F_forward [x0, x1, x2, x3, x4, x5, x6, x7] = .ok (f8 x0 x1 x2 x3 x4 x5 x6 x7) := by
  unfold F_forward
  show (F_check_size (8 : Int)).bind _ = _
  rw [size8, bind_ok, if_neg (show ¬ (((([x0, x1, x2, x3, x4, x5, x6, x7] : List Int).length : Nat) : Int) = 4) by show ¬ ((8 : Int) = 4); decide), eight_eq, bind_ok]
theorem I8 (x0 x1 x2 x3 x4 x5 x6 x7 : Int) : F_inverse [x0, x1, x2, x3, x4, x5, x6, x7] = .ok (i8 x0 x1 x2 x3 x4 x5 x6 x7) := by
  unfold F_inverse
  show (F_check_size (8 : Int)).bind _ = _
  rw [size8, bind_ok, if_neg (show ¬ (((([x0, x1, x2, x3, x4, x5, x6, x7] : List Int).length : Nat) : Int) = 4) by show ¬ ((8 : Int) = 4); decide), inv8_eq, bind_ok]
theorem IF4 (a b c d : Int) : F_inverse (f4 a b c d) = .ok [a, b, c, d] := by
  unfold f4
  rw [I4]
  unfold i4
  rw [bt1, bt2, js0, js1, js0, js1, js0, js1]
theorem FI4 (a b c d : Int) : F_forward (i4 a b c d) = .ok [a, b, c, d] := by
  unfold i4
  rw [F4]
  unfold f4
  rw [sj0, sj1, sj0, sj1, sj0, sj1, tb1, tb2]
theorem IF8 (x0 x1 x2 x3 x4 x5 x6 x7 : Int) : F_inverse (f8 x0 x1 x2 x3 x4 x5 x6 x7) = .ok [x0, x1, x2, x3, x4, x5, x6, x7] := by
  unfold f8
  rw [I8]
  unfold i8
  simp only [bt1, bt2, js0, js1]
theorem FI8 (x0 x1 x2 x3 x4 x5 x6 x7 : Int) : F_forward (i8 x0 x1 x2 x3 x4 x5 x6 x7) = .ok [x0, x1, x2, x3, x4, x5, x6, x7] := by
  unfold i8
  rw [F8]
  unfold f8
  simp only [sj0, sj1, tb1, tb2]
theorem len8 {α : Type} {l : List α} (h : l.length = 8) : ∃ a b c d e f g i, l = [a, b, c, d, e, f, g, i] := by
  obtain ⟨a, r, rfl, h2⟩ := len_s h
  obtain ⟨b, c, d, e, g, i, j, rfl⟩ := len7 h2
  exact ⟨a, b, c, d, e, g, i, j, rfl⟩
/-! squares of four or eight rows -/
def fw : List Int → List Int
  | [a, b, c, d] => f4 a b c d
  | [x0, x1, x2, x3, x4, x5, x6, x7] => f8 x0 x1 x2 x3 x4 x5 x6 x7
  | _ => []
def iv : List Int → List Int
  | [a, b, c, d] => i4 a b c d
  | [x0, x1, x2, x3, x4, x5, x6, x7] => i8 x0 x1 x2 x3 x4 x5 x6 x7
  | _ => []
def N48 (n : Nat) : Prop := n = 4 ∨ n = 8
theorem N48.cases {l : List Int} (h : N48 l.length) : (∃ a b c d, l = [a, b, c, d]) ∨ ∃ a b c d e f g i, l = [a, b, c, d, e, f, g, i] := by
  rcases h with h | h
  · exact .inl (len4 h)
  · exact .inr (len8 h)
theorem fw_eq {l : List Int} (h : N48 l.length) : F_forward l = .ok (fw l) := by
  rcases h.cases with ⟨a, b, c, d, rfl⟩ | ⟨a, b, c, d, e, f, g, i, rfl⟩
  · exact F4 a b c d
  · exact F8 a b c d e f g i
theorem iv_eq {l : List Int} (h : N48 l.length) : F_inverse l = .ok (iv l) := by
  rcases h.cases with ⟨a, b, c, d, rfl⟩ | ⟨a, b, c, d, e, f, g, i, rfl⟩
  · exact I4 a b c d
  · exact I8 a b c d e f g i
theorem fw_len {l : List Int} (h : N48 l.length) : (fw l).length = l.length := by
  rcases h.cases with ⟨a, b, c, d, rfl⟩ | ⟨a, b, c, d, e, f, g, i, rfl⟩ <;> rfl
theorem iv_len {l : List Int} (h : N48 l.length) : (iv l).length = l.length := by
  rcases h.cases with ⟨a, b, c, d, rfl⟩ | ⟨a, b, c, d, e, f, g, i, rfl⟩ <;> rfl
theorem okj {α : Type} {a b : α} {m : Rx α} (h1 : m = .ok a) (h2 : m = .ok b) : a = b := by
  rw [h1] at h2
  injection h2
theorem ivfw {l : List Int} (h : N48 l.length) : iv (fw l) = l := by
  rcases h.cases with ⟨a, b, c, d, rfl⟩ | ⟨a, b, c, d, e, f, g, i, rfl⟩
  · exact okj (iv_eq (.inl rfl)) (IF4 a b c d)
  · exact okj (iv_eq (.inr rfl)) (IF8 a b c d e f g i)
theorem fwiv {l : List Int} (h : N48 l.length) : fw (iv l) = l := by
  rcases h.cases with ⟨a, b, c, d, rfl⟩ | ⟨a, b, c, d, e, f, g, i, rfl⟩
  · exact okj (fw_eq (.inl rfl)) (FI4 a b c d)
  · exact okj (fw_eq (.inr rfl)) (FI8 a b c d e f g i)
/-! ### rows -/
def Sq (n : Nat) (M : List (List Int)) : Prop := M.length = n ∧ ∀ r ∈ M, r.length = n
def at2 (M : List (List Int)) (j i : Nat) : Int := itD (itD M (j : Int)) (i : Int)
theorem itDn {α : Type} [Inhabited α] {xs : List α} {j : Nat} (h : j < xs.length) : itD xs (j : Int) = xs[j] := itD_nat rfl h
theorem Sq.row {n : Nat} {M : List (List Int)} (h : Sq n M) {j : Nat} (hj : j < n) : (itD M (j : Int)).length = n := by
  rw [itDn (by rw [h.1]; exact hj)]
  exact h.2 _ (List.getElem_mem _)
theorem sq_ext {n : Nat} {A B : List (List Int)} (ha : Sq n A) (hb : Sq n B) (h : ∀ j i, j < n → i < n → at2 A j i = at2 B j i) : A = B := by
  apply List.ext_getElem (by rw [ha.1, hb.1])
  intro j h1 h2
  have hj : j < n := by rw [← ha.1]; exact h1
  apply List.ext_getElem (by rw [ha.2 _ (List.getElem_mem _), hb.2 _ (List.getElem_mem _)])
  intro i q1 q2
  have hi : i < n := by rw [← ha.2 _ (List.getElem_mem h1)]; exact q1
  have := h j i hj hi
  unfold at2 at this
  rw [itDn h1, itDn h2, itDn q1, itDn q2] at this
  exact this
theorem minLen_sq {n : Nat} {M : List (List Int)} (h : Sq n M) (hn : 0 < n) : minLen M = n := by
  have hne : M ≠ [] := by rintro rfl; have := h.1; simp at this; omega
  obtain ⟨x, hx, e⟩ := minLen_at hne
  rw [← e, h.2 x hx]
theorem Sq.tr {n : Nat} {M : List (List Int)} (h : Sq n M) (hn : 0 < n) : Sq n (zipRows M) := by
  refine ⟨by rw [zipRows_len, minLen_sq h hn], fun r hr => ?_⟩
  unfold zipRows at hr
  obtain ⟨i, _, rfl⟩ := List.mem_map.mp hr
  rw [colOf, List.length_map, h.1]
theorem tr_row {n i : Nat} {M : List (List Int)} (h : Sq n M) (hi : i < n) : itD (zipRows M) (i : Int) = colOf M i := by
  have hn : 0 < n := by omega
  have hl : i < (zipRows M).length := by rw [(h.tr hn).1]; exact hi
  rw [itDn hl]
  have := zipRows_get (xss := M) (i := i) (by rw [minLen_sq h hn]; exact hi)
  rw [List.getElem?_eq_getElem hl] at this
  injection this
theorem col_at {n i j : Nat} {M : List (List Int)} (h : M.length = n) (hj : j < n) : itD (colOf M i) (j : Int) = itD (itD M (j : Int)) (i : Int) := by
  have h1 : j < (colOf M i).length := by rw [colOf, List.length_map, h]; exact hj
  rw [itDn h1, itDn (xs := M) (j := j) (by rw [h]; exact hj)]
  simp [colOf]
theorem at_tr {n i j : Nat} {M : List (List Int)} (h : Sq n M) (hi : i < n) (hj : j < n) : at2 (zipRows M) i j = at2 M j i := by
  unfold at2
  rw [tr_row h hi, col_at h.1 hj]
theorem tr_tr {n : Nat} {M : List (List Int)} (h : Sq n M) (hn : 0 < n) : zipRows (zipRows M) = M :=
  sq_ext ((h.tr hn).tr hn) h fun j i hj hi => by rw [at_tr (h.tr hn) hj hi, at_tr h hi hj]
theorem Sq.map {n : Nat} {M : List (List Int)} {g : List Int → List Int} (h : Sq n M) (hg : ∀ l, l.length = n → (g l).length = n) : Sq n (M.map g) :=
  ⟨by rw [List.length_map, h.1], fun r hr => by
    obtain ⟨l, hl, rfl⟩ := List.mem_map.mp hr
    exact hg l (h.2 l hl)⟩
theorem N48.pos {n : Nat} (h : N48 n) : 0 < n := by rcases h with rfl | rfl <;> decide
theorem map_id' {n : Nat} {M : List (List Int)} {g : List Int → List Int} (h : Sq n M) (hg : ∀ l, l.length = n → g l = l) : M.map g = M := by
  conv => rhs; rw [← List.map_id M]
  exact List.map_congr_left fun l hl => hg l (h.2 l hl)
section
variable {n : Nat} {M : List (List Int)}
theorem fwl (hn : N48 n) : ∀ l : List Int, l.length = n → (fw l).length = n := fun l h => by rw [fw_len (by rw [h]; exact hn), h]
theorem ivl (hn : N48 n) : ∀ l : List Int, l.length = n → (iv l).length = n := fun l h => by rw [iv_len (by rw [h]; exact hn), h]
def fsq (M : List (List Int)) : List (List Int) := zipRows ((zipRows (M.map fw)).map fw)
def isq (M : List (List Int)) : List (List Int) := (zipRows ((zipRows M).map iv)).map iv
theorem fsq_sq (h : Sq n M) (hn : N48 n) : Sq n (fsq M) := (((h.map (fwl hn)).tr hn.pos).map (fwl hn)).tr hn.pos
theorem isq_sq (h : Sq n M) (hn : N48 n) : Sq n (isq M) := (((h.tr hn.pos).map (ivl hn)).tr hn.pos).map (ivl hn)
theorem isq_fsq (h : Sq n M) (hn : N48 n) : isq (fsq M) = M := by
  have s1 := h.map (fwl hn)
  have s2 := s1.tr hn.pos
  have s3 := s2.map (fwl hn)
  unfold isq fsq
  rw [tr_tr s3 hn.pos, List.map_map, map_id' (g := iv ∘ fw) s2 (fun l hl => ivfw (by rw [hl]; exact hn)), tr_tr s1 hn.pos, List.map_map]
  exact map_id' h fun l hl => ivfw (by rw [hl]; exact hn)
theorem fsq_isq (h : Sq n M) (hn : N48 n) : fsq (isq M) = M := by
  have s1 := h.tr hn.pos
  have s2 := s1.map (ivl hn)
  have s3 := s2.tr hn.pos
  unfold isq fsq
  rw [List.map_map, map_id' (g := fw ∘ iv) s3 (fun l hl => fwiv (by rw [hl]; exact hn)), tr_tr s2 hn.pos, List.map_map, map_id' (g := fw ∘ iv) s1 (fun l hl => fwiv (by rw [hl]; exact hn)), tr_tr h hn.pos]
theorem check_ok (h : Sq n M) (hn : N48 n) : F_check_square M = .ok () := by
  unfold F_check_square
  have e : F_check_size (M.length : Int) = .ok () := by
    rw [h.1]
    rcases hn with rfl | rfl
    · exact size4
    · exact size8
  rw [e, bind_ok, forS_pure (g := fun _ _ => ()) (fun s x hx => ?_)]
  · rfl
  · unfold F_check_square_b1
    rw [if_pos (by rw [h.1, h.2 x hx])]
theorem forS_er {α : Type} {e : Nat} {xs : List α} {f : Unit → α → Rx Unit} (h : ∀ x ∈ xs, f () x = .ok () ∨ f () x = .er e) (h2 : ∃ x ∈ xs, f () x = .er e) : forS xs () f = .er e := by
  induction xs with
  | nil => obtain ⟨x, hx, _⟩ := h2; cases hx
  | cons x r ih =>
    show (f () x).bind _ = _
    rcases h x List.mem_cons_self with q | q
    · rw [q, bind_ok]
      refine ih (fun y hy => h y (List.mem_cons_of_mem _ hy)) ?_
      obtain ⟨y, hy, hz⟩ := h2
      rcases List.mem_cons.mp hy with rfl | hy
      · rw [q] at hz; cases hz
      · exact ⟨y, hy, hz⟩
    · rw [q]; rfl
theorem check_er (h : ¬ N48 M.length ∨ ∃ r ∈ M, r.length ≠ M.length) : F_check_square M = .er 1 := by
  unfold F_check_square
  by_cases hn : N48 M.length
  · have h2 := h.resolve_left (fun z => z hn)
    have e : F_check_size (M.length : Int) = .ok () := by
      rcases hn with q | q
      · rw [q]; exact size4
      · rw [q]; exact size8
    have k1 : ∀ x ∈ M, F_check_square_b1 M x = .ok () ∨ F_check_square_b1 M x = .er 1 := fun x _ => by
      unfold F_check_square_b1
      by_cases q : ((x.length : Nat) : Int) = M.length
      · exact .inl (if_pos q)
      · exact .inr (if_neg q)
    have k2 : ∃ x ∈ M, F_check_square_b1 M x = .er 1 := by
      obtain ⟨r, hr, ne⟩ := h2
      refine ⟨r, hr, ?_⟩
      unfold F_check_square_b1
      exact if_neg (by omega)
    rw [e, bind_ok, forS_er (f := fun s x => F_check_square_b1 M x) k1 k2]
    rfl
  · rw [size_er (fun z => hn (.inl (by omega))) (fun z => hn (.inr (by omega)))]
    rfl
theorem transposed_eq (h : Sq n M) (hn : N48 n) : F_transposed M = .ok (zipRows M) := by
  unfold F_transposed
  rw [grd_pos (by rw [h.1]; rcases hn with rfl | rfl <;> simp), mapA_pure0 (f := fun x => noEr (F_transposed_c1 x)) (g := id) (fun x _ => rfl) (by rw [(h.tr hn.pos).1]; rcases hn with rfl | rfl <;> decide), bind_ok, List.map_id]
theorem small48 (hn : N48 n) : n ≤ 8 := by rcases hn with rfl | rfl <;> decide
theorem isq_eq (h : Sq n M) (hn : N48 n) : F_inverse_square M = .ok (isq M) := by
  have hs := small48 hn
  unfold F_inverse_square
  have s1 := h.tr hn.pos
  have s2 := s1.map (ivl hn)
  have s3 := s2.tr hn.pos
  have key : ∀ {X : List (List Int)}, Sq n X → ∀ x ∈ X, F_inverse x = .ok (iv x) := fun hX x hx => iv_eq (by rw [hX.2 x hx]; exact hn)
  rw [check_ok h hn, bind_ok, transposed_eq h hn, bind_ok,
    mapA_pure0 (f := fun x => noEr (F_inverse_square_c1 x)) (g := iv) (fun x hx => by unfold F_inverse_square_c1; rw [key s1 x hx]; rfl) (by rw [s1.1]; omega), bind_ok,
    transposed_eq s2 hn, bind_ok, mapA_pure0 (f := fun x => noEr (F_inverse_square_c2 x)) (g := iv) (fun x hx => by unfold F_inverse_square_c2; rw [key s3 x hx]; rfl) (by rw [s3.1]; omega)]
  rfl
end
section
variable {n : Nat} {M : List (List Int)}
theorem fsq_eq (h : Sq n M) (hn : N48 n) : F_forward_square M = .ok (fsq M) := by
  have hs := small48 hn
  unfold F_forward_square
  have s1 := h.map (fwl hn)
  have s2 := s1.tr hn.pos
  have s3 := s2.map (fwl hn)
  have key : ∀ {X : List (List Int)}, Sq n X → ∀ x ∈ X, F_forward x = .ok (fw x) := fun hX x hx => fw_eq (by rw [hX.2 x hx]; exact hn)
  rw [check_ok h hn, bind_ok, mapA_pure0 (f := fun x => noEr (F_forward_square_c1 x)) (g := fw) (fun x hx => by unfold F_forward_square_c1; rw [key h x hx]; rfl) (by rw [h.1]; omega), bind_ok, transposed_eq s1 hn, bind_ok,
    mapA_pure0 (f := fun x => noEr (F_forward_square_c2 x)) (g := fw) (fun x hx => by unfold F_forward_square_c2; rw [key s2 x hx]; rfl) (by rw [s2.1]; omega), bind_ok, transposed_eq s3 hn, bind_ok]
  rfl
theorem refused_ok (h : ¬ N48 M.length ∨ ∃ r ∈ M, r.length ≠ M.length) : F__law_refused M = .ok true := by
  have e1 : F_forward_square M = .er 1 := by unfold F_forward_square; rw [check_er h]; rfl
  have e2 : F_inverse_square M = .er 1 := by unfold F_inverse_square; rw [check_er h]; rfl
  unfold F__law_refused
  rw [e1, tryR_er (by simp), bnd_eq, bind_ok]
  unfold F__law_refused_k1
  rw [e2, tryR_er (by simp)]
  rfl
theorem issq_ok (h : Sq n M) {k : Int} (hk : k = n) : F__law_is_square M k = .ok true := by
  unfold F__law_is_square
  rw [if_pos (by rw [h.1, hk]), forR_unit (fun x hx => ?_)]
  · rfl
  · unfold F__law_is_square_b1
    rw [if_pos (by rw [h.2 x hx, hk]), forR_unit (fun y _ => rfl)]
    rfl
end
/-! ### the bound -/
def Bd (m x : Int) : Prop := -m ≤ x ∧ x ≤ m
theorem bd_sl {m a b : Int} (ha : Bd m a) (hb : Bd m b) : Bd m (sl a b) := by unfold Bd sl at *; omega
theorem bd_sh {m a b : Int} (ha : Bd m a) (hb : Bd m b) : Bd (2 * m) (sh a b) := by unfold Bd sh at *; omega
theorem bd_t {m f s o i : Int} (hm : 0 ≤ m) (h : (o = 6 ∧ i = 12) ∨ (o = 3 ∧ i = 6) ∨ (o = 10 ∧ i = 18)) (hf : Bd (2 * m) f) (hs : Bd (2 * m) s) : Bd (4 * m + 4) (t1 f s o i) ∧ Bd (4 * m + 4) (t2 f s o i) := by
  rcases h with ⟨rfl, rfl⟩ | ⟨rfl, rfl⟩ | ⟨rfl, rfl⟩ <;> (unfold Bd at *; unfold t2; generalize e : t1 f s _ _ = y; unfold t1 at e; unfold tS at *; omega)
theorem bd_up {m k x : Int} (h : Bd m x) (e : m ≤ k) : Bd k x := by unfold Bd at *; omega
theorem fw_bd {l : List Int} {m : Int} (h : N48 l.length) (hm : 0 ≤ m) (hb : ∀ x ∈ l, Bd m x) : ∀ y ∈ fw l, Bd (8 * m + 8) y := by
  rcases h.cases with ⟨a, b, c, d, rfl⟩ | ⟨x0, x1, x2, x3, x4, x5, x6, x7, rfl⟩
  · have ha := hb a (by simp)
    have hb1 := hb b (by simp)
    have hc := hb c (by simp)
    have hd := hb d (by simp)
    have T := bd_t (o := 6) (i := 12) hm (.inl ⟨rfl, rfl⟩) (bd_sh ha hd) (bd_sh hb1 hc)
    intro y hy
    have hy : y ∈ [sl (sl a d) (sl b c), t1 (sh a d) (sh b c) 6 12, sh (sl a d) (sl b c), t2 (sh a d) (sh b c) 6 12] := hy
    simp only [List.mem_cons, List.not_mem_nil, or_false] at hy
    rcases hy with rfl | rfl | rfl | rfl
    · exact bd_up (bd_sl (bd_sl ha hd) (bd_sl hb1 hc)) (by omega)
    · exact bd_up T.1 (by omega)
    · exact bd_up (bd_sh (bd_sl ha hd) (bd_sl hb1 hc)) (by omega)
    · exact bd_up T.2 (by omega)
  · have h0 := hb x0 (by simp)
    have h1 := hb x1 (by simp)
    have h2 := hb x2 (by simp)
    have h3 := hb x3 (by simp)
    have h4 := hb x4 (by simp)
    have h5 := hb x5 (by simp)
    have h6 := hb x6 (by simp)
    have h7 := hb x7 (by simp)
    have A := bd_t (o := 3) (i := 6) hm (.inr (.inl ⟨rfl, rfl⟩)) (bd_sh h0 h7) (bd_sh h3 h4)
    have B := bd_t (o := 10) (i := 18) hm (.inr (.inr ⟨rfl, rfl⟩)) (bd_sh h1 h6) (bd_sh h2 h5)
    have z0 := bd_sl h0 h7
    have z1 := bd_sl h1 h6
    have z2 := bd_sl h2 h5
    have z3 := bd_sl h3 h4
    have C := bd_t (o := 6) (i := 12) hm (.inl ⟨rfl, rfl⟩) (bd_sh z0 z3) (bd_sh z1 z2)
    intro y hy
    have hy : y ∈ f8 x0 x1 x2 x3 x4 x5 x6 x7 := hy
    unfold f8 at hy
    simp only [List.mem_cons, List.not_mem_nil, or_false] at hy
    rcases hy with rfl | rfl | rfl | rfl | rfl | rfl | rfl | rfl
    · exact bd_up (bd_sl (bd_sl z0 z3) (bd_sl z1 z2)) (by omega)
    · exact bd_up (bd_sl A.1 B.1) (by omega)
    · exact bd_up C.1 (by omega)
    · exact bd_up (bd_sl B.2 A.2) (by omega)
    · exact bd_up (bd_sh (bd_sl z0 z3) (bd_sl z1 z2)) (by omega)
    · exact bd_up (bd_sh A.1 B.1) (by omega)
    · exact bd_up C.2 (by omega)
    · exact bd_up (bd_sh B.2 A.2) (by omega)
def Bds (m : Int) (M : List (List Int)) : Prop := ∀ r ∈ M, ∀ x ∈ r, Bd m x
theorem Bds.map {n : Nat} {M : List (List Int)} {m : Int} (h : Bds m M) (hs : Sq n M) (hn : N48 n) (hm : 0 ≤ m) : Bds (8 * m + 8) (M.map fw) := fun r hr => by
  obtain ⟨l, hl, rfl⟩ := List.mem_map.mp hr
  exact fw_bd (by rw [hs.2 l hl]; exact hn) hm (h l hl)
theorem Bds.tr {n : Nat} {M : List (List Int)} {m : Int} (h : Bds m M) (hs : Sq n M) (hn : 0 < n) : Bds m (zipRows M) := fun r hr x hx => by
  unfold zipRows at hr
  obtain ⟨i, hi, rfl⟩ := List.mem_map.mp hr
  obtain ⟨l, hl, rfl⟩ := List.mem_map.mp hx
  have hi : i < n := by rw [minLen_sq hs hn] at hi; exact List.mem_range.mp hi
  have := hs.2 l hl
  rw [itDn (by omega)]
  exact h l hl _ (List.getElem_mem _)
theorem fsq_bd {n : Nat} {M : List (List Int)} {m : Int} (h : Bds m M) (hs : Sq n M) (hn : N48 n) (hm : 0 ≤ m) : Bds (64 * m + 72) (fsq M) := by
  have s1 := hs.map (fwl hn)
  have s2 := s1.tr hn.pos
  have s3 := s2.map (fwl hn)
  have b1 := (h.map hs hn hm).tr s1 hn.pos
  have b2 := (b1.map s2 hn (by omega)).tr s3 hn.pos
  have e : 8 * (8 * m + 8) + 8 = 64 * m + 72 := by omega
  rw [e] at b2
  exact b2
/-! ### columns one by one -/
theorem setL_nat {α : Type} {xs : List α} {k : Nat} {y : α} (h : k < xs.length) : setL xs (k : Int) y = xs.set k y := by
  unfold setL ixN
  rw [if_pos (by omega), if_pos (by omega)]
  rfl
theorem itD_set {α : Type} [Inhabited α] {xs : List α} {k j : Nat} {y : α} (hk : k < xs.length) (hj : j < xs.length) : itD (setL xs (k : Int) y) (j : Int) = if k = j then y else itD xs (j : Int) := by
  rw [setL_nat hk, itDn (by rw [List.length_set]; exact hj), itDn hj, List.getElem_set]
section
variable {n : Nat} {M : List (List Int)}
theorem set_sq {j i : Nat} {v : Int} (h : Sq n M) (hj : j < n) : Sq n (setL M (j : Int) (setL (itD M (j : Int)) (i : Int) v)) := by
  refine ⟨by rw [setL_len, h.1], fun r hr => ?_⟩
  rcases setL_mem hr with q | rfl
  · exact h.2 r q
  · rw [setL_len, h.row hj]
theorem set_at {j i a b : Nat} {v : Int} (h : Sq n M) (hj : j < n) (hi : i < n) (ha : a < n) (hb : b < n) : at2 (setL M (j : Int) (setL (itD M (j : Int)) (i : Int) v)) a b = if j = a ∧ i = b then v else at2 M a b := by
  unfold at2
  rw [itD_set (by rw [h.1]; exact hj) (by rw [h.1]; exact ha)]
  by_cases q : j = a
  · subst q
    rw [if_pos rfl, itD_set (by rw [h.row hj]; exact hi) (by rw [h.row hj]; exact hb)]
    by_cases z : i = b
    · rw [if_pos z, if_pos ⟨rfl, z⟩]
    · rw [if_neg z, if_neg (fun w => z w.2)]
  · rw [if_neg q, if_neg (fun w => q w.1)]
theorem rng_col (h : M.length = n) (i : Nat) : (rng 0 n).map (fun j => itD (itD M j) (i : Int)) = colOf M i := by
  apply List.ext_getElem (by rw [List.length_map, rng_len, colOf, List.length_map, h])
  intro j h1 h2
  rw [List.length_map, rng_len] at h1
  have e : (rng 0 n)[j]'(by rw [rng_len]; exact h1) = (j : Int) := by
    have := rng_get (lo := 0) h1
    rw [List.getElem?_eq_getElem (by rw [rng_len]; exact h1)] at this
    injection this with this
    rw [this]; omega
  rw [List.getElem_map, e, itDn (xs := M) (j := j) (by rw [h]; exact h1)]
  simp [colOf]
theorem repl_one {x : Int} {k : Nat} : repL [x] (k : Int) = List.replicate k x := by
  unfold repL
  rw [Int.toNat_natCast]
  induction k with
  | zero => rfl
  | succ k ih => rw [List.replicate_succ, List.flatten_cons, ih]; rfl
theorem passes_ok (h : Sq n M) (hn : N48 n) : F__law_passes M n = .ok (fsq M) := by
  have hs := small48 hn
  have hp := hn.pos
  refine Gv.get ?_
  unfold F__law_passes
  have s1 := h.map (fwl hn)
  have s2 := s1.tr hp
  have s3 := s2.map (fwl hn)
  refine Gv.bind_eq (mapA_pure0 (g := fw) (fun x hx => ?_) (by rw [h.1]; omega)) ?_
  · unfold F__law_passes_c1
    rw [fw_eq (by rw [h.2 x hx]; exact hn)]
    rfl
  refine Gv.grd ⟨by omega, by omega⟩ (Gv.bind_eq (mapA_pure0 (g := fun _ => List.replicate n (0 : Int)) (fun x hx => ?_) (by rw [rng_len]; omega)) (Gv.grd ⟨by omega, by omega⟩ ?_))
  · unfold F__law_passes_c2
    rw [grd_pos ⟨by omega, by omega, by show 1 * _ ≤ _; omega⟩, repl_one]
    rfl
  rw [Int.toNat_natCast]
  have s0 : Sq n ((rng 0 n).map fun _ => List.replicate n (0 : Int)) := ⟨by rw [List.length_map, rng_len], fun r hr => by obtain ⟨_, _, rfl⟩ := List.mem_map.mp hr; exact List.length_replicate⟩
  refine Gv.bind (Gv.forS (P := fun i out => Sq n out ∧ ∀ a b, a < n → b < i → b < n → at2 out a b = itD (fw (colOf (M.map fw) b)) (a : Int)) ⟨s0, fun a b _ hb _ => absurd hb (Nat.not_lt_zero _)⟩ fun i x out hx p => ?_) fun out p => .ok ?_
  · obtain ⟨rfl, hi⟩ := rng_at hx
    rw [show (0 : Int) + (i : Int) = (i : Int) by omega]
    have hcl : (colOf (M.map fw) i).length = n := by rw [colOf, List.length_map, List.length_map, h.1]
    unfold F__law_passes_b3
    refine Gv.grd ⟨by omega, by omega⟩ ?_
    rw [Int.toNat_natCast]
    refine Gv.bind_eq (a := colOf (M.map fw) i) ?_ (Gv.bind_eq (fw_eq (by rw [hcl]; exact hn)) (Gv.grd ⟨by omega, by omega⟩ ?_))
    · rw [mapA_pure0 (g := fun j => itD (itD (M.map fw) j) (i : Int)) (fun j hj => ?_) (by rw [rng_len]; omega), rng_col s1.1]
      have hj := rng_mem hj
      obtain ⟨j', rfl⟩ : ∃ j' : Nat, j = (j' : Int) := ⟨j.toNat, by omega⟩
      unfold F__law_passes_c4
      rw [grd_pos (by rw [s1.1]; omega), grd_pos (by rw [s1.row (by omega)]; omega)]
      rfl
    · refine Gv.bind (Gv.forS (P := fun t out => Sq n out ∧ (∀ a b, a < n → b < i → b < n → at2 out a b = itD (fw (colOf (M.map fw) b)) (a : Int)) ∧ ∀ a, a < t → a < n → at2 out a i = itD (fw (colOf (M.map fw) i)) (a : Int)) ⟨p.1, p.2, fun a ha _ => absurd ha (Nat.not_lt_zero _)⟩ fun t y o hy q => ?_) fun o q => .ok ⟨q.1, fun a b ha hb hbn => ?_⟩
      · obtain ⟨rfl, ht⟩ := rng_at hy
        rw [show (0 : Int) + (t : Int) = (t : Int) by omega]
        have hfl : (fw (colOf (M.map fw) i)).length = n := fwl hn _ hcl
        unfold F__law_passes_b5
        refine Gv.grd (by rw [hfl]; omega) (Gv.grd (by rw [q.1.1]; omega) (Gv.grd (by rw [q.1.row ht]; omega) (Gv.bnd fun z hz => .ok ?_)))
        subst hz
        refine ⟨set_sq q.1 ht, fun a b ha hb hbn => ?_, fun a ha han => ?_⟩
        · rw [set_at q.1 ht hi ha hbn, if_neg (by omega)]
          exact q.2.1 a b ha hb hbn
        · rw [set_at q.1 ht hi han hi]
          by_cases e : t = a
          · subst e
            rw [if_pos ⟨rfl, rfl⟩]
          · rw [if_neg (fun w => e w.1)]
            exact q.2.2 a (by omega) han
      · by_cases e : b = i
        · subst e
          exact q.2.2 a (by rw [rng_len]; exact ha) ha
        · exact q.2.1 a b ha (by omega) hbn
  · refine sq_ext p.1 (fsq_sq h hn) fun a b ha hb => ?_
    rw [p.2 a b ha (by rw [rng_len]; exact hb) hb]
    unfold fsq
    rw [at_tr s3 ha hb]
    unfold at2
    rw [itD_map (by rw [s2.1]; omega), tr_row s1 hb]
end
/-! ### the rows that are drawn -/
theorem rows_gv (cell most : Int) {n : Nat} (hn : N48 n) (hm : 0 ≤ most) (hm2 : most ≤ 1000000000) : Gv (F__law_rows cell n most) (fun M => Sq n M ∧ Bds most M) := by
  have hs := small48 hn
  unfold F__law_rows
  have hnn : (n : Int) * n ≤ 64 := by rcases hn with rfl | rfl <;> decide
  have hn0 : (0 : Int) ≤ (n : Int) * n := by rcases hn with rfl | rfl <;> decide
  refine Gv.grd (.inl ⟨by omega, by omega⟩) (Gv.bind (digits_gv _ _ _ (by omega) (by omega) hn0 (by omega)) fun d hd => Gv.grd ⟨by omega, by omega⟩ ?_)
  rw [Int.toNat_natCast]
  refine Gv.bind (Gv.forS (P := fun (i : Nat) (M : List (List Int)) => M.length = i ∧ (∀ r ∈ M, r.length = n) ∧ Bds most M) ⟨rfl, fun r hr => (nomatch hr), fun r hr => (nomatch hr)⟩ fun j x M hx p => ?_) fun M p => .ok ⟨⟨by rw [p.1, rng_len], p.2.1⟩, p.2.2⟩
  obtain ⟨rfl, hj⟩ := rng_at hx
  unfold F__law_rows_b1
  refine Gv.grd ⟨by omega, by omega⟩ ?_
  rw [Int.toNat_natCast]
  refine Gv.bind (Gv.forS (P := fun (i : Nat) (row : List Int) => row.length = i ∧ ∀ x ∈ row, Bd most x) ⟨rfl, fun r hr => by cases hr⟩ fun i y row hy q => ?_) fun row q => ?_
  · obtain ⟨rfl, hi⟩ := rng_at hy
    unfold F__law_rows_b2
    have hix : 0 ≤ ((0 : Int) + j) * n + (0 + i) ∧ ((0 : Int) + j) * n + (0 + i) < d.length := by
      have e := hd.1
      rw [e]
      rcases hn with rfl | rfl <;> (simp only [Int.zero_add]; constructor <;> omega)
    refine Gv.grd (.inl ⟨by omega, by omega⟩) (Gv.grd ⟨by omega, hix.2⟩ (Gv.bnd fun w hw => Gv.bind (P := fun v => Bd most v) ?_ fun v hv => ?_))
    · have hmem := hd.2 _ (itD_mem (xs := d) (k := ((0 : Int) + j) * n + (0 + i)) ⟨by omega, hix.2⟩)
      have bw : Bd most w := by unfold Bd; omega
      refine Gv.ite (fun _ => Gv.bnd fun v hv => .ok ?_) fun _ => .ok bw
      subst hv
      unfold Bd
      split <;> omega
    · have := q.1
      refine Gv.grd (by omega) (Gv.bnd fun r hr => .ok ?_)
      subst hr
      refine ⟨by rw [List.length_append, q.1]; rfl, all_snoc q.2 hv⟩
  · have := p.1
    refine Gv.grd (by omega) (Gv.bnd fun r hr => .ok ?_)
    subst hr
    have hl : row.length = n := by rw [q.1, rng_len]
    refine ⟨by rw [List.length_append, p.1]; rfl, fun r hr => ?_, fun r hr => ?_⟩
    · rcases List.mem_append.mp hr with z | z
      · exact p.2.1 r z
      · rw [List.mem_singleton.mp z]; exact hl
    · rcases List.mem_append.mp hr with z | z
      · exact p.2.2 r z
      · rw [List.mem_singleton.mp z]; exact q.2
theorem show_sq {n : Nat} {M : List (List Int)} {m : Int} (h : Sq n M) (hn : N48 n) (hb : Bds m M) (hm : m ≤ 1000000000) : ShowOk (encL (encL PyData.int) M) := by
  have hs := small48 hn
  have key : Sm 73 2 (encL (encL PyData.int) M) := by
    refine sm_L (n := 9) (m := 8) (fun r hr => sm_ints (m := 8) (fun x hx => ?_) ?_) (by rw [h.1]; exact hs)
    · have := hb r hr x hx
      unfold Bd at this
      omega
    · rw [h.2 r hr]; exact hs
  exact key.show
/-! ### the law -/
theorem k10_ok {bad : List (List Int)} {wrong : Int} (hb : ¬ N48 bad.length ∨ ∃ r ∈ bad, r.length ≠ bad.length) (h0 : 0 ≤ wrong) (h1 : wrong < 12) (h4 : wrong ≠ 4) (h8 : wrong ≠ 8) : F_law_k10 bad wrong = .ok (.go ()) := by
  refine Gv.get ?_
  unfold F_law_k10
  refine Gv.bind_eq (refused_ok hb) (Gv.pos rfl (Gv.grd ⟨by omega, by omega⟩ (Gv.bind_eq (mapA_pure0 (g := fun _ => repL [0] wrong) (fun x hx => ?_) (by rw [rng_len]; omega)) (Gv.bind_eq (refused_ok (.inl ?_)) (Gv.pos rfl (.ok rfl))))))
  · unfold F_law_c11
    rw [grd_pos ⟨by omega, by omega, by show 1 * _ ≤ _; omega⟩]
    rfl
  · rw [List.length_map, rng_len]
    unfold N48
    omega
theorem repl_len {x k : Int} (h : 0 ≤ k) : (repL [x] k).length = k.toNat := by
  obtain ⟨j, rfl⟩ : ∃ j : Nat, k = (j : Int) := ⟨k.toNat, by omega⟩
  rw [repl_one, List.length_replicate, Int.toNat_natCast]
theorem mem_setL {α : Type} {xs : List α} {k : Int} {y : α} (h : -(xs.length : Int) ≤ k ∧ k < xs.length) : y ∈ setL xs k y := by
  obtain ⟨j, e, hj⟩ := ixN_some h
  unfold setL
  rw [e]
  exact List.mem_set hj y
theorem k7_ok {n : Nat} {cell : Int} {rows other bad : List (List Int)} (hc : 0 ≤ cell) (hn : N48 n) (h : Sq n rows) (hb : ¬ N48 bad.length ∨ ∃ r ∈ bad, r.length ≠ bad.length) : F_law_k7 cell n rows other bad = .ok (.go ()) := by
  have hs := small48 hn
  have hp := hn.pos
  refine Gv.get ?_
  unfold F_law_k7
  have hk : 0 ≤ cell / 45 % n ∧ cell / 45 % n < n := ⟨Int.emod_nonneg _ (by omega), Int.emod_lt_of_pos _ (by omega)⟩
  refine Gv.bind_eq (mapA_pure0 (g := id) (fun x _ => rfl) (by rw [h.1]; omega)) ?_
  rw [List.map_id]
  refine Gv.grd ⟨by omega, by omega, by show 1 * _ ≤ _; omega⟩ (Gv.grd (by omega) (Gv.grd (by rw [h.1]; omega) (Gv.bnd fun o ho => Gv.bind_eq (refused_ok (.inr ⟨repL [0] (12 - n), ?_, ?_⟩)) (Gv.pos rfl (Gv.grd ⟨by omega, by omega⟩ ?_)))))
  · subst ho
    exact mem_setL (by rw [h.1]; omega)
  · subst ho
    rw [setL_len, h.1, repl_len (by omega)]
    unfold N48 at hn
    omega
  rw [Int.toNat_natCast]
  refine Gv.bind_eq (mapA_pure0 (g := fun _ => repL [0] (12 - n)) (fun x hx => ?_) (by rw [rng_len]; omega)) (Gv.bind_eq (refused_ok (.inr ⟨repL [0] (12 - n), ?_, ?_⟩)) (Gv.pos rfl (Gv.bnd fun w hw => Gv.bind (P := fun w => 0 ≤ w ∧ w < 12 ∧ w ≠ 4 ∧ w ≠ 8) ?_ fun w2 h2 => .of_eq (k10_ok hb h2.1 h2.2.1 h2.2.2.1 h2.2.2.2) rfl)))
  · unfold F_law_c9
    rw [grd_pos ⟨by omega, by omega, by show 1 * _ ≤ _; omega⟩]
    rfl
  · refine List.mem_map.mpr ⟨0, ?_, rfl⟩
    have := rng_get (lo := 0) hp
    exact List.mem_of_getElem? (by rw [this]; rfl)
  · rw [List.length_map, rng_len, repl_len (by omega)]
    unfold N48 at hn
    omega
  · refine Gv.ite (fun _ => .ok ⟨by decide, by decide, by decide, by decide⟩) fun c4 => Gv.ite (fun _ => .ok ⟨by decide, by decide, by decide, by decide⟩) fun c8 => .ok ⟨by omega, by omega, c4, c8⟩
theorem r4_ok {n : Nat} {cell m : Int} {rows : List (List Int)} (hc : 0 ≤ cell) (hn : N48 n) (h : Sq n rows) (hb : Bds m rows) (hm : m ≤ 1000000000) : F_law_r4 cell n rows (PyData.shown (encL (encL PyData.int) rows)) (fsq rows) = .ok (.go ()) := by
  have hs := small48 hn
  have hp := hn.pos
  refine Gv.get ?_
  unfold F_law_r4
  have hk : 0 ≤ cell / 15 % n ∧ cell / 15 % n < n := ⟨Int.emod_nonneg _ (by omega), Int.emod_lt_of_pos _ (by omega)⟩
  have e1 := isq_eq (fsq_sq h hn) hn
  rw [isq_fsq h hn] at e1
  refine Gv.bind_eq e1 (Gv.bind_eq (isq_eq h hn) (Gv.bind_eq (issq_ok h rfl) (Gv.pos rfl (Gv.pos rfl (Gv.grd (show_sq h hn hb hm) (Gv.pos rfl (Gv.bind_eq (issq_ok (isq_sq h hn) rfl) (Gv.pos rfl ?_))))))))
  have e2 := fsq_eq (isq_sq h hn) hn
  rw [fsq_isq h hn] at e2
  refine Gv.bind_eq e2 (Gv.pos rfl (Gv.bind_eq (mapA_pure0 (g := id) (fun x _ => rfl) (by rw [h.1]; omega)) ?_))
  rw [List.map_id]
  refine Gv.bind (P := fun bad => ¬ N48 bad.length ∨ ∃ r ∈ bad, r.length ≠ bad.length) ?_ fun bad hbad => .of_eq (k7_ok hc hn h hbad) rfl
  obtain ⟨j, hj⟩ : ∃ j : Nat, cell / 15 % n = (j : Int) := ⟨(cell / 15 % n).toNat, by omega⟩
  have hjn : j < n := by omega
  have hr := h.row hjn
  refine Gv.ite (fun _ => Gv.grd ⟨by omega, by omega, by show 1 * _ ≤ _; omega⟩ (Gv.grd (by rw [h.1]; omega) (Gv.bnd fun b hb2 => .ok (.inl ?_)))) fun _ => Gv.ite (fun _ => ?_) fun _ => ?_
  · subst hb2
    rw [List.length_append, h.1]
    unfold N48 at *
    show ¬ (n + 1 = 4 ∨ n + 1 = 8)
    omega
  · rw [hj]
    refine Gv.grd (by omega) (Gv.grd (by rw [h.1]; omega) (Gv.grd (by rw [hr]; omega) (Gv.bnd fun b hb2 => .ok (.inr ⟨itD rows (j : Int) ++ [0], ?_, ?_⟩))))
    · subst hb2
      exact mem_setL (by rw [h.1]; omega)
    · subst hb2
      rw [setL_len, h.1, List.length_append, hr]
      show n + 1 ≠ n
      omega
  · rw [hj]
    refine Gv.grd (by omega) (Gv.grd (by rw [h.1]; omega) (Gv.grd (by omega) (Gv.grd (by rw [h.1]; omega) (Gv.bnd fun b hb2 => .ok (.inr ⟨cutL (itD rows (j : Int)) (some 1) none, ?_, ?_⟩)))))
    · subst hb2
      exact mem_setL (by rw [h.1]; omega)
    · subst hb2
      rw [setL_len, h.1]
      have : (cutL (itD rows (j : Int)) (some 1) none).length = n - 1 := by
        unfold cutL
        rw [List.length_take, List.length_drop, hr]
        rcases hn with rfl | rfl <;> decide
      omega
theorem b1_ok (s : List Int) (k : Int) (hk : 0 ≤ k) : F_law_b1 s k = .ok (.go ()) := by
  refine Gv.get ?_
  unfold F_law_b1
  refine Gv.bind (cell_gv s k hk) fun c0 hc0 => Gv.bnd fun cell hcell => Gv.bnd fun size hsize => Gv.grd (ixl (xs := [1, 255, 4095, 1000000000]) 4 rfl (by omega) (by omega)) (Gv.bnd fun most hmost => ?_)
  have hm : 0 ≤ most ∧ most ≤ 1000000000 := by
    have := itD_mem (xs := ([1, 255, 4095, 1000000000] : List Int)) (k := cell / 2 % 4) (ixl (xs := [1, 255, 4095, 1000000000]) 4 rfl (by omega) (by omega))
    rw [← hmost] at this
    simp at this
    omega
  obtain ⟨n, rfl⟩ : ∃ n : Nat, size = (n : Int) := ⟨size.toNat, by omega⟩
  have hn : N48 n := by unfold N48; omega
  have hs := small48 hn
  have hp := hn.pos
  refine Gv.bind (rows_gv (cell / 8) most hn hm.1 hm.2) fun rows h => Gv.grd (show_sq h.1 hn h.2 hm.2) (Gv.bind_eq (fsq_eq h.1 hn) (Gv.bind_eq (issq_ok (fsq_sq h.1 hn) rfl) (Gv.pos rfl (Gv.grd (show_sq h.1 hn h.2 hm.2) (Gv.pos rfl (Gv.bind_eq (passes_ok h.1 hn) (Gv.pos rfl ?_)))))))
  refine Gv.bind_eq (mapA_pure0 (g := fun r => maxL (r.map fun x => if x < 0 then -x else x)) (fun x hx => ?_) (by rw [h.1.1]; omega)) ?_
  · unfold F_law_c2
    have hx2 := h.1.2 x hx
    rw [mapA_pure0 (f := fun x => noEr (F_law_c3 x)) (g := fun x => if x < 0 then -x else x) (fun y _ => rfl) (by omega), bind_ok, grd_pos]
    · rfl
    · intro z
      have := congrArg List.length z
      simp at this
      subst this
      simp at hx2
      omega
  have hne : (rows.map fun r => maxL (r.map fun x => if x < 0 then -x else x)) ≠ [] := by
    intro z
    have := congrArg List.length z
    simp at this
    rw [this] at h
    have := h.1.1
    simp at this
    omega
  refine Gv.grd hne (Gv.bnd fun g hg => ?_)
  have hbd : Bds g rows := fun r hr x hx => by
    have h1 := (maxL_spec _ hne).2 _ (List.mem_map.mpr ⟨r, hr, rfl⟩)
    have hne2 : (r.map fun x => if x < 0 then -x else x) ≠ [] := by
      intro z
      have := congrArg List.length z
      simp at this
      rw [this] at hx
      cases hx
    have h2 := (maxL_spec _ hne2).2 _ (List.mem_map.mpr ⟨x, hx, rfl⟩)
    rw [← hg] at h1
    unfold Bd
    revert h2
    split <;> (intro h2; omega)
  have hg0 : 0 ≤ g := by
    have hrow : 0 < rows.length := by rw [h.1.1]; exact hp
    have hr := List.getElem_mem hrow
    have hl := h.1.2 _ hr
    have hx : 0 < (rows[0]).length := by rw [hl]; exact hp
    have := hbd _ hr _ (List.getElem_mem hx)
    unfold Bd at this
    omega
  have hB := fsq_bd hbd h.1 hn hg0
  refine Gv.bind_eq (forR_unit fun r hr => ?_) (.of_eq (r4_ok (by omega) hn h.1 h.2 hm.2) rfl)
  unfold F_law_b4
  rw [forR_unit (fun x hx => ?_)]
  · rfl
  · have := hB r hr x hx
    unfold Bd at this
    unfold F_law_b5
    rw [if_neg (by split <;> omega)]
theorem law_true (xs : List Int) (h : xs.length ≤ 63) : F_law xs = .ok true := by
  unfold F_law
  rw [grd_pos (by split <;> omega), forR_unit (fun x hx => b1_ok xs x (rng_mem hx).1)]
  rfl

end Vx
namespace Vx
open PySem PySem.Spec PyProof.Rows L2
def topS (i : Nat) : Stmt := PySem.Challenge.pw_thaumatrope_k43_squares_transformed.main.body.getD i (.Pass ⟨0, 0, 0, 0⟩)
abbrev s__law_digits : Stmt := topS 23
abbrev s__law_rows : Stmt := topS 25
abbrev s_check_size : Stmt := topS 5
abbrev s_check_square : Stmt := topS 6
abbrev s_transposed : Stmt := topS 7
abbrev s_split_pair : Stmt := topS 9
abbrev s_turn_pair : Stmt := topS 11
abbrev s__forward_four : Stmt := topS 17
abbrev s__forward_eight : Stmt := topS 19
abbrev s_forward : Stmt := topS 13
abbrev s_forward_square : Stmt := topS 15
abbrev s_turn_back : Stmt := topS 12
abbrev s_join_pair : Stmt := topS 10
abbrev s__inverse_four : Stmt := topS 18
abbrev s__inverse_eight : Stmt := topS 20
abbrev s_inverse : Stmt := topS 14
abbrev s_inverse_square : Stmt := topS 16
abbrev s__law_cell : Stmt := topS 22
abbrev s__law_is_square : Stmt := topS 24
abbrev s__law_passes : Stmt := topS 26
abbrev s__law_refused : Stmt := topS 27
abbrev s_law : Stmt := topS 28
structure Ads where
  x_CodecError : Addr
  x_OutOfRange : Addr
  t_SIZES : Addr
  z0 : Addr
def excA (AD : Ads) : Nat → Addr
  | 0 => AD.x_CodecError
  | 1 => AD.x_OutOfRange
  | _ => AD.z0
structure Txt (K : PySem.W.Frag) (mg : Str → Option Value) (AD : Ads) : Prop where
  b_int : mg "int" = none
  b_range : mg "range" = none
  g_SIZES : ∃ u, mg "SIZES" = some u ∧ RelV (V.ref AD.t_SIZES) u
  ts_SIZES : ∀ H, SqT K H AD.t_SIZES (([4, 8] : List Int).map V.int)
  b_len : mg "len" = none
  b_zip : mg "zip" = none
  b_list : mg "list" = none
  b_abs : mg "abs" = none
  b_isinstance : mg "isinstance" = none
  b_bool : mg "bool" = none
  b_repr : mg "repr" = none
  b_max : mg "max" = none
  b_min : mg "min" = none
  xg_OutOfRange : mg "OutOfRange" = some (.ref AD.x_OutOfRange)
  xx_OutOfRange : PySem.W.excIn K AD.x_OutOfRange [.type "ValueError", .type "Exception", .type "BaseException", .type "object"] "ValueError.__new__" = true
  xk_OutOfRange : PySem.W.keepIn K (.ref AD.x_OutOfRange) = true
  xb_OutOfRange : PySem.W.subIn K (.ref AD.x_OutOfRange) (.type "BaseException") = some true
  xt_OutOfRange : PySem.W.typeIn K (.ref AD.x_OutOfRange) = some (.type "type")
  xm_OutOfRange_OutOfRange : PySem.W.exmOne K (.ref AD.x_OutOfRange) (.ref AD.x_OutOfRange) = some true
abbrev pat__law_digits_0 : Pat := (3, [], fun vs _ => vs)
abbrev pats__law_digits : List Pat := [pat__law_digits_0]
abbrev pat__law_rows_0 : Pat := (3, [], fun vs _ => vs)
abbrev pats__law_rows : List Pat := [pat__law_rows_0]
abbrev pat_check_size_0 : Pat := (1, [], fun vs _ => vs)
abbrev pats_check_size : List Pat := [pat_check_size_0]
abbrev pat_check_square_0 : Pat := (1, [], fun vs _ => vs)
abbrev pats_check_square : List Pat := [pat_check_square_0]
abbrev pat_transposed_0 : Pat := (1, [], fun vs _ => vs)
abbrev pats_transposed : List Pat := [pat_transposed_0]
abbrev pat_split_pair_0 : Pat := (2, [], fun vs _ => vs)
abbrev pats_split_pair : List Pat := [pat_split_pair_0]
abbrev pat_turn_pair_0 : Pat := (2, ["outer", "inner"], fun vs zs => match vs, zs with | [a0, a1], [b0, b1] => [a0, a1, b0, b1] | _, _ => [])
abbrev pats_turn_pair : List Pat := [pat_turn_pair_0]
abbrev pat__forward_four_0 : Pat := (1, [], fun vs _ => vs)
abbrev pats__forward_four : List Pat := [pat__forward_four_0]
abbrev pat__forward_eight_0 : Pat := (1, [], fun vs _ => vs)
abbrev pats__forward_eight : List Pat := [pat__forward_eight_0]
abbrev pat_forward_0 : Pat := (1, [], fun vs _ => vs)
abbrev pats_forward : List Pat := [pat_forward_0]
abbrev pat_forward_square_0 : Pat := (1, [], fun vs _ => vs)
abbrev pats_forward_square : List Pat := [pat_forward_square_0]
abbrev pat_turn_back_0 : Pat := (2, ["outer", "inner"], fun vs zs => match vs, zs with | [a0, a1], [b0, b1] => [a0, a1, b0, b1] | _, _ => [])
abbrev pats_turn_back : List Pat := [pat_turn_back_0]
abbrev pat_join_pair_0 : Pat := (2, [], fun vs _ => vs)
abbrev pats_join_pair : List Pat := [pat_join_pair_0]
abbrev pat__inverse_four_0 : Pat := (1, [], fun vs _ => vs)
abbrev pats__inverse_four : List Pat := [pat__inverse_four_0]
abbrev pat__inverse_eight_0 : Pat := (1, [], fun vs _ => vs)
abbrev pats__inverse_eight : List Pat := [pat__inverse_eight_0]
abbrev pat_inverse_0 : Pat := (1, [], fun vs _ => vs)
abbrev pats_inverse : List Pat := [pat_inverse_0]
abbrev pat_inverse_square_0 : Pat := (1, [], fun vs _ => vs)
abbrev pats_inverse_square : List Pat := [pat_inverse_square_0]
abbrev pat__law_cell_0 : Pat := (2, [], fun vs _ => vs)
abbrev pats__law_cell : List Pat := [pat__law_cell_0]
abbrev pat__law_is_square_0 : Pat := (2, [], fun vs _ => vs)
abbrev pats__law_is_square : List Pat := [pat__law_is_square_0]
abbrev pat__law_passes_0 : Pat := (2, [], fun vs _ => vs)
abbrev pats__law_passes : List Pat := [pat__law_passes_0]
abbrev pat__law_refused_0 : Pat := (1, [], fun vs _ => vs)
abbrev pats__law_refused : List Pat := [pat__law_refused_0]
abbrev pats_law : List Pat := []
def sp__law_digits (K : PySem.W.Frag) (AD : Ads) : Sp := fun vs H Q E => ∃ (G : Hp) (cell' : Int) (base' : Int) (most' : Int), vs = [.int cell', .int base', .int most'] ∧ Same G H ∧ cW (F__law_digits cell' base' most') (fun v => ∀ p H', H p = none → Same H H' → H' p = some (.lst (v.map V.int)) → Q (.ref p) H') (fun e => ∀ H', Same H H' → E (.ref (excA AD e)) none H')
def sp__law_rows (K : PySem.W.Frag) (AD : Ads) : Sp := fun vs H Q E => ∃ (G : Hp) (cell' : Int) (size' : Int) (most' : Int), vs = [.int cell', .int size', .int most'] ∧ Same G H ∧ cW (F__law_rows cell' size' most') (fun v => ∀ (H' : Hp) (a : Addr) (vs : List V) (L : List Addr) (G' : Hp), H a = none → (∀ b ∈ L, H b = none) → (∀ b ∈ L, b ≠ a) → Same H H' → Same G G' → Same G' H' → (∀ b, H b ≠ none → G b = none → G' b = none) → G' a = none → (∀ b ∈ L, G' b = none) → H' a = some (.lst vs) → OwAll G' H' L vs ((v : (List (List Int))).map (oL oI)) → Q (.ref a) H') (fun e => ∀ H', Same H H' → E (.ref (excA AD e)) none H')
def sp_check_size (K : PySem.W.Frag) (AD : Ads) : Sp := fun vs H Q E => ∃ (G : Hp) (size' : Int), vs = [.int size'] ∧ Same G H ∧ cW (F_check_size size') (fun v => Q .non H) (fun e => E (.ref (excA AD e)) none H)
def sp_check_square (K : PySem.W.Frag) (AD : Ads) : Sp := fun vs H Q E => ∃ (G : Hp) (v_square : V) (square' : (List (List Int))), vs = [v_square] ∧ Same G H ∧ Rp (hideL [] H) v_square ((encL (encL PyData.int)) square') ∧ cW (F_check_square square') (fun v => ∀ H', Same H H' → Q .non H') (fun e => ∀ H', Same H H' → E (.ref (excA AD e)) none H')
def sp_transposed (K : PySem.W.Frag) (AD : Ads) : Sp := fun vs H Q E => ∃ (G : Hp) (v_rows : V) (rows' : (List (List Int))), vs = [v_rows] ∧ Same G H ∧ Rp (hideL [] H) v_rows ((encL (encL PyData.int)) rows') ∧ cW (F_transposed rows') (fun v => ∀ (H' : Hp) (a : Addr) (vs : List V) (L : List Addr) (G' : Hp), H a = none → (∀ b ∈ L, H b = none) → (∀ b ∈ L, b ≠ a) → Same H H' → Same G G' → Same G' H' → (∀ b, H b ≠ none → G b = none → G' b = none) → G' a = none → (∀ b ∈ L, G' b = none) → H' a = some (.lst vs) → OwAll G' H' L vs ((v : (List (List Int))).map (oL oI)) → Q (.ref a) H') (fun e => ∀ H', Same H H' → E (.ref (excA AD e)) none H')
def sp_split_pair (K : PySem.W.Frag) (AD : Ads) : Sp := fun vs H Q E => ∃ (G : Hp) (first' : Int) (second' : Int), vs = [.int first', .int second'] ∧ Same G H ∧ cW (F_split_pair first' second') (fun v => ∀ u H' G', Same H H' → Same G G' → Same G' H' → (∀ b, H b ≠ none → G b = none → G' b = none) → Rp G' u ((encT2 PyData.int PyData.int) v) → Q u H') (fun e => ∀ H', Same H H' → E (.ref (excA AD e)) none H')
def sp_turn_pair (K : PySem.W.Frag) (AD : Ads) : Sp := fun vs H Q E => ∃ (G : Hp) (first' : Int) (second' : Int) (outer' : Int) (inner' : Int), vs = [.int first', .int second', .int outer', .int inner'] ∧ Same G H ∧ cW (F_turn_pair first' second' outer' inner') (fun v => ∀ u H' G', Same H H' → Same G G' → Same G' H' → (∀ b, H b ≠ none → G b = none → G' b = none) → Rp G' u ((encT2 PyData.int PyData.int) v) → Q u H') (fun e => ∀ H', Same H H' → E (.ref (excA AD e)) none H')
def sp__forward_four (K : PySem.W.Frag) (AD : Ads) : Sp := fun vs H Q E => ∃ (G : Hp) (a_values : Addr) (values' : List Int), vs = [.ref a_values] ∧ Same G H ∧ (hideL [] H) a_values = some (.lst ((values' : List Int).map V.int)) ∧ cW (F__forward_four values') (fun v => ∀ p H', H p = none → Same H H' → H' p = some (.lst (v.map V.int)) → Q (.ref p) H') (fun e => ∀ H', Same H H' → E (.ref (excA AD e)) none H')
def sp__forward_eight (K : PySem.W.Frag) (AD : Ads) : Sp := fun vs H Q E => ∃ (G : Hp) (a_values : Addr) (values' : List Int), vs = [.ref a_values] ∧ Same G H ∧ (hideL [] H) a_values = some (.lst ((values' : List Int).map V.int)) ∧ cW (F__forward_eight values') (fun v => ∀ p H', H p = none → Same H H' → H' p = some (.lst (v.map V.int)) → Q (.ref p) H') (fun e => ∀ H', Same H H' → E (.ref (excA AD e)) none H')
def sp_forward (K : PySem.W.Frag) (AD : Ads) : Sp := fun vs H Q E => ∃ (G : Hp) (a_values : Addr) (values' : List Int), vs = [.ref a_values] ∧ Same G H ∧ (hideL [] H) a_values = some (.lst ((values' : List Int).map V.int)) ∧ cW (F_forward values') (fun v => ∀ p H', H p = none → Same H H' → H' p = some (.lst (v.map V.int)) → Q (.ref p) H') (fun e => ∀ H', Same H H' → E (.ref (excA AD e)) none H')
def sp_forward_square (K : PySem.W.Frag) (AD : Ads) : Sp := fun vs H Q E => ∃ (G : Hp) (v_square : V) (square' : (List (List Int))), vs = [v_square] ∧ Same G H ∧ Rp (hideL [] H) v_square ((encL (encL PyData.int)) square') ∧ cW (F_forward_square square') (fun v => ∀ (H' : Hp) (a : Addr) (vs : List V) (L : List Addr) (G' : Hp), H a = none → (∀ b ∈ L, H b = none) → (∀ b ∈ L, b ≠ a) → Same H H' → Same G G' → Same G' H' → (∀ b, H b ≠ none → G b = none → G' b = none) → G' a = none → (∀ b ∈ L, G' b = none) → H' a = some (.lst vs) → OwAll G' H' L vs ((v : (List (List Int))).map (oL oI)) → Q (.ref a) H') (fun e => ∀ H', Same H H' → E (.ref (excA AD e)) none H')
def sp_turn_back (K : PySem.W.Frag) (AD : Ads) : Sp := fun vs H Q E => ∃ (G : Hp) (first' : Int) (second' : Int) (outer' : Int) (inner' : Int), vs = [.int first', .int second', .int outer', .int inner'] ∧ Same G H ∧ cW (F_turn_back first' second' outer' inner') (fun v => ∀ u H' G', Same H H' → Same G G' → Same G' H' → (∀ b, H b ≠ none → G b = none → G' b = none) → Rp G' u ((encT2 PyData.int PyData.int) v) → Q u H') (fun e => ∀ H', Same H H' → E (.ref (excA AD e)) none H')
def sp_join_pair (K : PySem.W.Frag) (AD : Ads) : Sp := fun vs H Q E => ∃ (G : Hp) (low' : Int) (high' : Int), vs = [.int low', .int high'] ∧ Same G H ∧ cW (F_join_pair low' high') (fun v => ∀ u H' G', Same H H' → Same G G' → Same G' H' → (∀ b, H b ≠ none → G b = none → G' b = none) → Rp G' u ((encT2 PyData.int PyData.int) v) → Q u H') (fun e => ∀ H', Same H H' → E (.ref (excA AD e)) none H')
def sp__inverse_four (K : PySem.W.Frag) (AD : Ads) : Sp := fun vs H Q E => ∃ (G : Hp) (a_values : Addr) (values' : List Int), vs = [.ref a_values] ∧ Same G H ∧ (hideL [] H) a_values = some (.lst ((values' : List Int).map V.int)) ∧ cW (F__inverse_four values') (fun v => ∀ p H', H p = none → Same H H' → H' p = some (.lst (v.map V.int)) → Q (.ref p) H') (fun e => ∀ H', Same H H' → E (.ref (excA AD e)) none H')
def sp__inverse_eight (K : PySem.W.Frag) (AD : Ads) : Sp := fun vs H Q E => ∃ (G : Hp) (a_values : Addr) (values' : List Int), vs = [.ref a_values] ∧ Same G H ∧ (hideL [] H) a_values = some (.lst ((values' : List Int).map V.int)) ∧ cW (F__inverse_eight values') (fun v => ∀ p H', H p = none → Same H H' → H' p = some (.lst (v.map V.int)) → Q (.ref p) H') (fun e => ∀ H', Same H H' → E (.ref (excA AD e)) none H')
def sp_inverse (K : PySem.W.Frag) (AD : Ads) : Sp := fun vs H Q E => ∃ (G : Hp) (a_values : Addr) (values' : List Int), vs = [.ref a_values] ∧ Same G H ∧ (hideL [] H) a_values = some (.lst ((values' : List Int).map V.int)) ∧ cW (F_inverse values') (fun v => ∀ p H', H p = none → Same H H' → H' p = some (.lst (v.map V.int)) → Q (.ref p) H') (fun e => ∀ H', Same H H' → E (.ref (excA AD e)) none H')
def sp_inverse_square (K : PySem.W.Frag) (AD : Ads) : Sp := fun vs H Q E => ∃ (G : Hp) (v_square : V) (square' : (List (List Int))), vs = [v_square] ∧ Same G H ∧ Rp (hideL [] H) v_square ((encL (encL PyData.int)) square') ∧ cW (F_inverse_square square') (fun v => ∀ (H' : Hp) (a : Addr) (vs : List V) (L : List Addr) (G' : Hp), H a = none → (∀ b ∈ L, H b = none) → (∀ b ∈ L, b ≠ a) → Same H H' → Same G G' → Same G' H' → (∀ b, H b ≠ none → G b = none → G' b = none) → G' a = none → (∀ b ∈ L, G' b = none) → H' a = some (.lst vs) → OwAll G' H' L vs ((v : (List (List Int))).map (oL oI)) → Q (.ref a) H') (fun e => ∀ H', Same H H' → E (.ref (excA AD e)) none H')
def sp__law_cell (K : PySem.W.Frag) (AD : Ads) : Sp := fun vs H Q E => ∃ (G : Hp) (a_script : Addr) (script' : List Int) (k' : Int), vs = [.ref a_script, .int k'] ∧ Same G H ∧ SqL K H a_script ((script' : List Int).map V.int) ∧ cW (F__law_cell script' k') (fun v => Q (.int v) H) (fun e => E (.ref (excA AD e)) none H)
def sp__law_is_square (K : PySem.W.Frag) (AD : Ads) : Sp := fun vs H Q E => ∃ (G : Hp) (v_actual : V) (actual' : (List (List Int))) (size' : Int), vs = [v_actual, .int size'] ∧ Same G H ∧ Rp (hideL [] H) v_actual ((encL (encL PyData.int)) actual') ∧ cW (F__law_is_square actual' size') (fun v => ∀ H', Same H H' → Q (.bl v) H') (fun e => ∀ H', Same H H' → E (.ref (excA AD e)) none H')
def sp__law_passes (K : PySem.W.Frag) (AD : Ads) : Sp := fun vs H Q E => ∃ (G : Hp) (v_rows : V) (rows' : (List (List Int))) (size' : Int), vs = [v_rows, .int size'] ∧ Same G H ∧ Rp (hideL [] H) v_rows ((encL (encL PyData.int)) rows') ∧ cW (F__law_passes rows' size') (fun v => ∀ (H' : Hp) (a : Addr) (vs : List V) (L : List Addr) (G' : Hp), H a = none → (∀ b ∈ L, H b = none) → (∀ b ∈ L, b ≠ a) → Same H H' → Same G G' → Same G' H' → (∀ b, H b ≠ none → G b = none → G' b = none) → G' a = none → (∀ b ∈ L, G' b = none) → H' a = some (.lst vs) → OwAll G' H' L vs ((v : (List (List Int))).map (oL oI)) → Q (.ref a) H') (fun e => ∀ H', Same H H' → E (.ref (excA AD e)) none H')
def sp__law_refused (K : PySem.W.Frag) (AD : Ads) : Sp := fun vs H Q E => ∃ (G : Hp) (v_rows : V) (rows' : (List (List Int))), vs = [v_rows] ∧ Same G H ∧ Rp (hideL [] H) v_rows ((encL (encL PyData.int)) rows') ∧ cW (F__law_refused rows') (fun v => ∀ H', Same H H' → Q (.bl v) H') (fun e => ∀ H', Same H H' → E (.ref (excA AD e)) none H')
def sp_law (K : PySem.W.Frag) (AD : Ads) : Sp := fun vs H Q E => ∃ (a_script : Addr) (script : List Int), vs = [.ref a_script] ∧ SqL K H a_script (script.map V.int) ∧ cW (F_law script) (fun v => v = true) (fun _ => False) ∧ ∀ H', Q (.bl true) H'
section
variable {P : Program} {w : World} {K : PySem.W.Frag} {mg : Str → Option Value} {base : Heap} {AD : Ads}
abbrev N__law_digits : List Str := ["cell", "base", "most", "digits", "large", "k"]
theorem sc__law_digits : FnScope N__law_digits ["cell", "base", "most"] (defScope s__law_digits) := ⟨rfl, rfl, rfl, by decide +kernel, rfl, by decide +kernel, by decide +kernel⟩
theorem ok__law_digits (D : DefX K mg "_law_digits" s__law_digits ["cell", "base", "most"] pats__law_digits) (T : Txt K mg AD)  : CalX P w K mg base 1 "_law_digits" (sp__law_digits K AD) pats__law_digits := by
  refine D.ok sc__law_digits (fun vs H Q E h => ?_) (fun f cdv A_ outer s H vs Q E hr h => ?_)
  · obtain ⟨G, cell', base', most', rfl, _⟩ := h
    rfl
  · obtain ⟨G, cell', base', most', rfl, sG, hw⟩ := h
    refine ⟨_, (pss_cons (ps_set (i := 3) sc__law_digits.nd rfl (Or.inl rfl) (pe_lst pa_nil))
      (pss_cons (ps_set (i := 4) sc__law_digits.nd rfl (Or.inl rfl) (pe_cmp (pc_ge (pv 0) (pe_op op_pow pe_int pe_int))))
      (pss_cons (ps_for (passes_of rfl) rfl (pi_range1 rfl T.b_range (pa_cons (pv 2) pa_nil)) (pg_name (i := 5) sc__law_digits.nd rfl (Or.inl rfl)) (pss_one (ps_if (pt_val (pv 4)) (pss_cons (ps_expr (pe_bm PySem.F.plainAttrs_list PySem.F.slot_list_append PySem.F.type_list_append mt_append (pv 3) (pa_cons (pe_op op_mod (pe_callTy call_int1 (by rfl) T.b_int (by decide +kernel) (pa_cons (pv 0) pa_nil)) (pv 1)) pa_nil)))
      (pss_one (ps_set (i := 0) sc__law_digits.nd rfl (Or.inl rfl) (pe_op op_fdivW (pv 0) (pv 1))))) (pss_one (ps_expr (pe_bm PySem.F.plainAttrs_list PySem.F.slot_list_append PySem.F.type_list_append mt_append (pv 3) (pa_cons (pe_op op_mod (pe_op op_mod (pe_callTy call_int1 (by rfl) T.b_int (by decide +kernel) (pa_cons (pe_op op_add (pe_op op_add (pe_op op_mul (pv 0) pe_int) (pe_op op_mul (pe_op op_mul (pe_op op_add (pv 5) pe_int) (pe_op op_add (pv 5) pe_int)) pe_int)) (pe_op op_mul (pe_op op_fdivW (pv 0) pe_int) (pv 5))) pa_nil)) pe_int) (pv 1)) pa_nil)))))))
      (pss_one (ps_ret (pv 3)))))), ?_⟩
    obtain ⟨KK, EE, hK0, hE, hw⟩ := cW_gen hw
    have S0 := Sep.startG sG
    unfold F__law_digits at hw
    refine ⟨(by show 0 ≤ sizeLine; decide), fun p1 n2 => ?_⟩
    generalize g3 : upd H p1 _ = H4
    obtain ⟨e5, h6⟩ := gen_new n2 g3
    have h7 : H4 p1 = some (.lst ((([] : (List Int)) : (List Int)).map V.int)) := h6
    have fr8 := S0.free n2
    have S9 := S0.new n2 e5 h7 fr8
    refine ⟨_, rfl, _, _, rfl, rfl, ⟨by decide, by decide, by decide⟩, _, _, rfl, rfl, ?_⟩
    have hw := cW_bnd hw
    obtain ⟨g11, hw⟩ := cW_grd hw
    obtain ⟨K14, hK15, hw⟩ := cW_push hw
    refine ⟨_, rfl, _, rfl, g11.1, g11.2, for_range (lo := 0) (n := Int.toNat (most')) (fun i σ H' => ∃ (cell_16 : Int) (digits_17 : (List Int)) (u18 : Option V) (G' : Hp), σ = [some (V.int cell_16), some (V.int (base')), some (V.int (most')), some (V.ref p1), some (V.bl (decide (((10 : Int) ^ Int.toNat 18) ≤ cell'))), u18] ∧ Same G G' ∧ Sep [] H G G' H' [p1] ∧ H' p1 = some (.lst ((digits_17 : (List Int)).map V.int)) ∧ cW (forS (List.drop i (rng (0) (Int.toNat (most')))) (cell_16, digits_17) (fun s x => F__law_digits_b1 (base') (decide (((10 : Int) ^ Int.toNat 18) ≤ cell')) (s.1) (s.2) x)) K14 EE) ?_ ?_ ?_⟩
    · exact ⟨(cell'), (([] : (List Int))), _, _, rfl, (Same.refl _), S9, h7, hw⟩
    · intro i σ H19 hi hw
      obtain ⟨cell_16, digits_17, u18, G22, rfl, eG23, S20, h21, hw⟩ := hw
      have hw := cW_forS (rng_get hi) hw
      generalize (0 + (i : Int)) = x24 at hw ⊢
      have hw : cW (F__law_digits_b1 (base') (decide (((10 : Int) ^ Int.toNat 18) ≤ cell')) (cell_16) (digits_17) (x24)) _ EE := hw
      unfold F__law_digits_b1 at hw
      obtain ⟨K27, hK28, hw⟩ := cW_name hw
      refine ⟨_, rfl, _, rfl, ?_⟩
      refine iteB (fun c30 => ?_) (fun c30 => ?_)
      · have hw := cW_pos c30 hw
        refine ⟨_, rfl, (.inl ⟨rfl, _, SqL.of h21⟩), _, rfl, .inl ⟨_, rfl, ?_⟩⟩
        obtain ⟨g31, hw⟩ := cW_grd hw
        obtain ⟨g32, hw⟩ := cW_grd hw
        refine ⟨_, rfl, _, _, rfl, rfl, g31, _, _, _, rfl, rfl, h21, (app_lenM g32), ?_⟩
        generalize g33 : upd H19 p1 _ = H34
        obtain ⟨x35, h36⟩ := gen_mut g33
        have h37 : H34 p1 = some (.lst (((digits_17) ++ [(cell_16 % base')] : (List Int)).map V.int)) := snoc_map h36
        have S38 := S20.mut1 x35 (.head _) h37
        have hw := cW_bnd hw
        obtain ⟨g40, hw⟩ := cW_grd hw
        refine ⟨_, rfl, _, rfl, _, _, rfl, rfl, (divW_small g40.1 g40.2), ?_⟩
        have hw := cW_bnd hw
        have hw := cW_ok hw
        have hw := hK28 _ hw
        exact ⟨((cell_16 / base')), ((digits_17) ++ [(cell_16 % base')]), _, _, rfl, eG23, S38, h37, hw⟩
      · have hw := cW_negB c30 hw
        obtain ⟨g42, hw⟩ := cW_grd hw
        obtain ⟨g43, hw⟩ := cW_grd hw
        refine ⟨_, rfl, (.inl ⟨rfl, _, SqL.of h21⟩), _, rfl, _, _, rfl, rfl, (.inr ⟨by decide, by decide⟩), _, rfl, _, _, rfl, rfl, _, rfl, _, _, rfl, rfl, _, _, rfl, rfl, g42, _, _, rfl, rfl, (.inr ⟨by decide, by decide⟩), _, _, rfl, rfl, _, rfl, _, _, rfl, rfl, (divW_lit (by decide) (by decide)), _, rfl, _, _, rfl, rfl, g43, _, _, rfl, rfl, .inl ⟨_, rfl, ?_⟩⟩
        obtain ⟨g44, hw⟩ := cW_grd hw
        obtain ⟨g45, hw⟩ := cW_grd hw
        refine ⟨_, _, rfl, rfl, (show (0 : Int) < 2147483647 by decide), _, rfl, _, _, rfl, rfl, g44, _, _, _, rfl, rfl, h21, (app_lenM g45), ?_⟩
        generalize g46 : upd H19 p1 _ = H47
        obtain ⟨x48, h49⟩ := gen_mut g46
        have h50 : H47 p1 = some (.lst (((digits_17) ++ [(((((cell_16 * 48271) + (((x24 + 1) * (x24 + 5)) * 69621)) + ((cell_16 / 97) * x24)) % 2147483647) % base')] : (List Int)).map V.int)) := snoc_map h49
        have S51 := S20.mut1 x48 (.head _) h50
        have hw := cW_bnd hw
        have hw := cW_ok hw
        have hw := hK28 _ hw
        exact ⟨(cell_16), ((digits_17) ++ [(((((cell_16 * 48271) + (((x24 + 1) * (x24 + 5)) * 69621)) + ((cell_16 / 97) * x24)) % 2147483647) % base')]), _, _, rfl, eG23, S51, h50, hw⟩
    · intro σ H53 hw
      obtain ⟨cell_16, digits_17, u18, G56, rfl, eG57, S54, h55, hw⟩ := hw
      have hw := hK15 _ (cW_forS0 (rng_len _ _).symm hw)
      have hw : cW (F__law_digits_r1  (cell_16) (digits_17)) _ EE := hw
      unfold F__law_digits_r1 at hw
      refine ⟨_, rfl, ?_⟩
      have hw := cW_ok hw
      exact hK0 _ hw _ _ fr8 S54.b0 h55

abbrev N__law_rows : List Str := ["cell", "size", "most", "digits", "rows", "j", "row", "i", "worth"]
theorem sc__law_rows : FnScope N__law_rows ["cell", "size", "most"] (defScope s__law_rows) := ⟨rfl, rfl, rfl, by decide +kernel, rfl, by decide +kernel, by decide +kernel⟩
theorem ok__law_rows (D : DefX K mg "_law_rows" s__law_rows ["cell", "size", "most"] pats__law_rows) (T : Txt K mg AD) (c__law_digits : CalX P w K mg base 1 "_law_digits" (sp__law_digits K AD) pats__law_digits) : CalX P w K mg base 2 "_law_rows" (sp__law_rows K AD) pats__law_rows := by
  refine D.ok sc__law_rows (fun vs H Q E h => ?_) (fun f cdv A_ outer s H vs Q E hr h => ?_)
  · obtain ⟨G, cell', size', most', rfl, _⟩ := h
    rfl
  · obtain ⟨G, cell', size', most', rfl, sG, hw⟩ := h
    refine ⟨_, (pss_cons (ps_set (i := 3) sc__law_rows.nd rfl (Or.inl rfl) (vx_callX c__law_digits pat__law_digits_0 (.head _) hr (by decide) (takes_of rfl rfl rfl rfl) rfl (pa_cons (pv 0) (pa_cons (pe_op op_add (pe_op op_mul pe_int (pv 2)) pe_int) (pa_cons (pe_op op_mul (pv 1) (pv 1)) pa_nil))) pk_nil))
      (pss_cons (ps_set (i := 4) sc__law_rows.nd rfl (Or.inl rfl) (pe_lst pa_nil))
      (pss_cons (ps_for (passes_of rfl) rfl (pi_range1 rfl T.b_range (pa_cons (pv 1) pa_nil)) (pg_name (i := 5) sc__law_rows.nd rfl (Or.inl rfl)) (pss_cons (ps_set (i := 6) sc__law_rows.nd rfl (Or.inl rfl) (pe_lst pa_nil))
      (pss_cons (ps_for (passes_of rfl) rfl (pi_range1 rfl T.b_range (pa_cons (pv 1) pa_nil)) (pg_name (i := 7) sc__law_rows.nd rfl (Or.inl rfl)) (pss_cons (ps_set (i := 8) sc__law_rows.nd rfl (Or.inl rfl) (pe_op op_sub (pe_ix (ix_listK (K := K)) (pv 3) (pe_op op_add (pe_op op_mul (pv 5) (pv 1)) (pv 7)) (fun _ _ => rfl)) (pv 2)))
      (C8.pss_cut (ps_if (pt_cmp (pc_eqI (pe_op op_mod (pe_op op_fdivW (pv 0) pe_int) pe_int) pe_int)) (pss_one (ps_set (i := 8) sc__law_rows.nd rfl (Or.inl rfl) (pe_ifExp (pt_cmp (pc_gt (pv 8) pe_int)) (pv 2) (pe_un un_neg (pv 2))))) pss_nil)
      (pss_one (ps_expr (pe_bm PySem.F.plainAttrs_list PySem.F.slot_list_append PySem.F.type_list_append mt_append (pv 6) (pa_cons (pv 8) pa_nil)))))))
      (pss_one (ps_expr (pe_bm PySem.F.plainAttrs_list PySem.F.slot_list_append PySem.F.type_list_append mt_append (pv 4) (pa_cons (pv 6) pa_nil)))))))
      (pss_one (ps_ret (pv 4)))))), ?_⟩
    obtain ⟨KK, EE, hK0, hE, hw⟩ := cW_gen hw
    have S0 := Sep.startG sG
    unfold F__law_rows at hw
    obtain ⟨g60, hw⟩ := cW_grd hw
    refine ⟨_, rfl, _, rfl, _, _, rfl, rfl, (.inl ⟨by decide, by decide⟩), _, _, rfl, rfl, _, rfl, _, rfl, _, _, rfl, rfl, g60, rfl, rfl, G, _, _, _, rfl, S0.sG, cW_call hw (fun v61 hw p64 H62 n65 e63 h66 => ?_) (fun e he H2 e2 => hE e he H2 (Same.trans S0.b0 e2))⟩
    have h67 : H62 p64 = some (.lst ((v61 : (List Int)).map V.int)) := h66
    have fr68 := S0.free n65
    have S69 := S0.new n65 e63 h67 fr68
    refine ⟨(by show 0 ≤ sizeLine; decide), fun p70 n71 => ?_⟩
    generalize g72 : upd H62 p70 _ = H73
    obtain ⟨e74, h75⟩ := gen_new n71 g72
    have h76 : H73 p70 = some (.lst ([])) := h75
    have fr77 := S69.free n71
    have S78 := S69.new n71 e74 h76 fr77
    have w79 : OwAll G H73 ([] : List Addr) ([]) ((([] : (List (List Int))) : (List (List Int))).map (oL oI)) := (OwAll.nil : OwAll _ _ [] [] (([] : List (List Int)).map (oL oI)))
    obtain ⟨g80, hw⟩ := cW_grd hw
    obtain ⟨K85, hK86, hw⟩ := cW_push hw
    refine ⟨_, rfl, _, rfl, g80.1, g80.2, for_range (lo := 0) (n := Int.toNat (size')) (fun i σ H' => ∃ (rows_87 : (List (List Int))) (vs88 : List V) (L89 : List Addr) (u90 : Option V) (u91 : Option V) (u92 : Option V) (u93 : Option V) (G' : Hp), σ = [some (V.int (cell')), some (V.int (size')), some (V.int (most')), some (V.ref p64), some (V.ref p70), u90, u91, u92, u93] ∧ Same G G' ∧ Sep [] H G G' H' (p64 :: (p70 :: (L89 ++ []))) ∧ H' p64 = some (.lst ((v61 : (List Int)).map V.int)) ∧ H' p70 = some (.lst (vs88)) ∧ (∀ b ∈ L89, b ≠ p64) ∧ (∀ b ∈ L89, b ≠ p70) ∧ OwAll G' H' L89 (vs88) ((rows_87 : (List (List Int))).map (oL oI)) ∧ cW (forS (List.drop i (rng (0) (Int.toNat (size')))) rows_87 (fun s x => F__law_rows_b1 (cell') (size') (most') (v61) s x)) K85 EE) ?_ ?_ ?_⟩
    · have h94 := (e74 _ _ h67)
      exact ⟨(([] : (List (List Int)))), ([]), ([] : List Addr), _, _, _, _, _, rfl, (Same.refl _), (S78.sub (all_cons (.tail _ (.head _)) (all_cons (.head _) (all_app all_nil all_nil)))), h94, h76, all_nil, all_nil, w79, hw⟩
    · intro i σ H95 hi hw
      obtain ⟨rows_87, vs88, L89, u90, u91, u92, u93, G102, rfl, eG103, S96, h97, h98, ne99, ne100, w101, hw⟩ := hw
      have hw := cW_forS (rng_get hi) hw
      generalize (0 + (i : Int)) = x104 at hw ⊢
      have hw : cW (F__law_rows_b1 (cell') (size') (most') (v61) (rows_87) (x104)) _ EE := hw
      unfold F__law_rows_b1 at hw
      obtain ⟨K106, hK107, hw⟩ := cW_name hw
      refine ⟨(by show 0 ≤ sizeLine; decide), fun p109 n110 => ?_⟩
      generalize g111 : upd H95 p109 _ = H112
      obtain ⟨e113, h114⟩ := gen_new n110 g111
      have h115 : H112 p109 = some (.lst ((([] : (List Int)) : (List Int)).map V.int)) := h114
      have fr116 := S96.free n110
      have S117 := S96.new n110 e113 h115 fr116
      obtain ⟨g118, hw⟩ := cW_grd hw
      obtain ⟨K125, hK126, hw⟩ := cW_push hw
      refine ⟨_, rfl, _, rfl, g118.1, g118.2, for_range (lo := 0) (n := Int.toNat (size')) (fun i σ H' => ∃ (row_127 : (List Int)) (u128 : Option V) (u129 : Option V) (G' : Hp), σ = [some (V.int (cell')), some (V.int (size')), some (V.int (most')), some (V.ref p64), some (V.ref p70), some (V.int (x104)), some (V.ref p109), u128, u129] ∧ Same G102 G' ∧ Sep [] H G G' H' (p64 :: (p70 :: (p109 :: (L89 ++ [])))) ∧ H' p64 = some (.lst ((v61 : (List Int)).map V.int)) ∧ H' p70 = some (.lst (vs88)) ∧ H' p109 = some (.lst ((row_127 : (List Int)).map V.int)) ∧ OwAll G' H' L89 (vs88) ((rows_87 : (List (List Int))).map (oL oI)) ∧ cW (forS (List.drop i (rng (0) (Int.toNat (size')))) row_127 (fun s x => F__law_rows_b2 (cell') (size') (most') (v61) (x104) s x)) K125 EE) ?_ ?_ ?_⟩
      · have h130 := (e113 _ _ h97)
        have h131 := (e113 _ _ h98)
        have w132 : OwAll G102 H112 L89 (vs88) ((rows_87 : (List (List Int))).map (oL oI)) := (OwAll.mono (Same.refl _) (keeps_same e113) w101)
        exact ⟨(([] : (List Int))), _, _, _, rfl, (Same.refl _), (S117.sub (all_cons (.tail _ (.head _)) (all_cons (.tail _ (.tail _ (.head _))) (all_cons (.head _) (all_app ((fun b hb => (.tail _ (.tail _ (.tail _ (List.mem_append_left _ hb))))) : ∀ b ∈ L89, b ∈ (p109 :: (p64 :: (p70 :: (L89 ++ []))))) all_nil))))), h130, h131, h115, w132, hw⟩
      · intro i σ H133 hi hw
        obtain ⟨row_127, u128, u129, G139, rfl, eG140, S134, h135, h136, h137, w138, hw⟩ := hw
        have hw := cW_forS (rng_get hi) hw
        generalize (0 + (i : Int)) = x141 at hw ⊢
        have hw : cW (F__law_rows_b2 (cell') (size') (most') (v61) (x104) (row_127) (x141)) _ EE := hw
        unfold F__law_rows_b2 at hw
        obtain ⟨K143, hK144, hw⟩ := cW_name hw
        obtain ⟨g146, hw⟩ := cW_grd hw
        obtain ⟨g147, hw⟩ := cW_grd hw
        refine ⟨_, rfl, _, rfl, _, rfl, _, _, rfl, rfl, g146, _, rfl, _, _, rfl, rfl, _, _, _, _, rfl, rfl, (SqL.of h135), (atI_map g147), _, rfl, _, _, rfl, rfl, ?_⟩
        have hw := cW_bnd hw
        refine ⟨fun σ H' => ∃ (worth_151 : Int) (G' : Hp), σ = [some (V.int (cell')), some (V.int (size')), some (V.int (most')), some (V.ref p64), some (V.ref p70), some (V.int (x104)), some (V.ref p109), some (V.int (x141)), some (V.int worth_151)] ∧ Same G139 G' ∧ Sep [] H G G' H' (p64 :: (p70 :: (p109 :: (L89 ++ [])))) ∧ H' p64 = some (.lst ((v61 : (List Int)).map V.int)) ∧ H' p70 = some (.lst (vs88)) ∧ H' p109 = some (.lst ((row_127 : (List Int)).map V.int)) ∧ OwAll G' H' L89 (vs88) ((rows_87 : (List (List Int))).map (oL oI)) ∧ cW (F__law_rows_k3 (row_127) worth_151) K143 EE, ?_, ?_⟩
        · obtain ⟨K152, hK153, hw⟩ := cW_push hw
          refine ⟨_, rfl, _, _, rfl, rfl, (divW_lit (by decide) (by decide)), _, _, rfl, rfl, (show (0 : Int) < 3 by decide), _, _, rfl, rfl, _, rfl, ?_⟩
          refine iteD (fun c154 => ?_) (fun c154 => ?_)
          · have hw := cW_pos c154 hw
            refine vv_if (vt_cmp (vv_cmp (val_var rfl) val_c (fun Q q => ⟨_, _, rfl, rfl, q⟩))) (val_var rfl) (vv_un (val_var rfl) (fun Q q => ⟨_, rfl, q⟩)) _ ?_
            have hw := cW_bnd hw
            have hw := cW_ok hw
            have hw := hK153 _ hw
            exact ⟨((if 0 < ((itD (v61) (((x104 * size') + x141))) - most') then most' else (-most'))), _, rfl, (Same.refl _), S134, h135, h136, h137, w138, hw⟩
          · have hw := cW_neg c154 hw
            have hw := cW_ok hw
            have hw := hK153 _ hw
            exact ⟨(((itD (v61) (((x104 * size') + x141))) - most')), _, rfl, (Same.refl _), S134, h135, h136, h137, w138, hw⟩
        · intro σ H159 hw
          obtain ⟨worth_151, G165, rfl, eG166, S160, h161, h162, h163, w164, hw⟩ := hw
          unfold F__law_rows_k3 at hw
          obtain ⟨g167, hw⟩ := cW_grd hw
          refine ⟨_, rfl, (.inl ⟨rfl, _, SqL.of h163⟩), _, rfl, _, _, _, rfl, rfl, h163, (app_lenM g167), ?_⟩
          generalize g168 : upd H159 p109 _ = H169
          obtain ⟨x170, h171⟩ := gen_mut g168
          have h172 : H169 p109 = some (.lst (((row_127) ++ [worth_151] : (List Int)).map V.int)) := snoc_map h171
          have S173 := S160.mut1 x170 (.tail _ (.tail _ (.head _))) h172
          have hw := cW_bnd hw
          have hw := cW_ok hw
          have hw := hK144 _ hw
          have h175 := (x170 _ _ h161 (ne_of_none h97 n110))
          have h176 := (x170 _ _ h162 (ne_of_none h98 n110))
          have w177 : OwAll G165 H169 L89 (vs88) ((rows_87 : (List (List Int))).map (oL oI)) := (OwAll.mono (Same.refl _) (keeps_mut x170 ((there_ne (fun b_ hb_ => (S96.ow b_ (((fun b hb => (.tail _ (.tail _ (List.mem_append_left _ hb)))) : ∀ b ∈ L89, b ∈ (p64 :: (p70 :: (L89 ++ [])))) b_ hb_)).2.1) n110) : ∀ b ∈ L89, b ≠ p109)) w164)
          exact ⟨((row_127) ++ [worth_151]), _, _, _, rfl, (Same.trans eG140 eG166), S173, h175, h176, h172, w177, hw⟩
      · intro σ H178 hw
        obtain ⟨row_127, u128, u129, G184, rfl, eG185, S179, h180, h181, h182, w183, hw⟩ := hw
        have hw := hK126 _ (cW_forS0 (rng_len _ _).symm hw)
        have hw : cW (F__law_rows_r2 (rows_87) (row_127)) _ EE := hw
        unfold F__law_rows_r2 at hw
        obtain ⟨g187, hw⟩ := cW_grd hw
        refine ⟨_, rfl, (.inl ⟨rfl, _, SqL.of h181⟩), _, rfl, ?_⟩
        refine ⟨_, _, _, rfl, rfl, h181, (app_len (OwAll.rpA w183 (encO_L encO_I) S179.sG) g187), ?_⟩
        generalize g188 : upd H178 p70 _ = H189
        obtain ⟨x190, h191⟩ := gen_mut g188
        have h192 : H189 p70 = some (.lst (vs88 ++ [V.ref p109])) := h191
        have S193 := S179.mut1 x190 (.tail _ (.head _)) h192
        have w194 : OwAll G184 H189 (L89 ++ (p109 :: ([] : List Addr))) (vs88 ++ [V.ref p109]) (((rows_87) ++ [row_127] : (List (List Int))).map (oL oI)) := OwAll.mono (Same.refl _) (keeps_mut x190 ((all_app ne100 (all_cons (ne_of_none h98 n110).symm all_nil)) : ∀ b ∈ (L89 ++ (p109 :: ([] : List Addr))), b ≠ p70)) (OwAll.snocM w183 (Ow.ints h182) ((fun b hb => (nm_cons ((there_ne (fun b_ hb_ => (S96.ow b_ (((fun b hb => (.tail _ (.tail _ (List.mem_append_left _ hb)))) : ∀ b ∈ L89, b ∈ (p64 :: (p70 :: (L89 ++ [])))) b_ hb_)).2.1) n110) b hb) nm_nil)) : ∀ b ∈ L89, b ∉ (p109 :: ([] : List Addr))))
        have hw := cW_bnd hw
        have hw := cW_ok hw
        have hw := hK107 _ hw
        have h196 := (x190 _ _ h180 (ne_of_none h67 n71))
        exact ⟨((rows_87) ++ [row_127]), (vs88 ++ [V.ref p109]), (L89 ++ (p109 :: ([] : List Addr))), _, _, _, _, _, rfl, (Same.trans eG103 eG185), (S193.sub (all_cons (.head _) (all_cons (.tail _ (.head _)) (all_app (all_app ((fun b hb => (.tail _ (.tail _ (.tail _ (List.mem_append_left _ hb))))) : ∀ b ∈ L89, b ∈ (p64 :: (p70 :: (p109 :: (L89 ++ []))))) (all_cons (.tail _ (.tail _ (.head _))) all_nil)) all_nil)))), h196, h192, (all_app ne99 (all_cons (ne_of_none h97 n110).symm all_nil)), (all_app ne100 (all_cons (ne_of_none h98 n110).symm all_nil)), w194, hw⟩
    · intro σ H197 hw
      obtain ⟨rows_87, vs88, L89, u90, u91, u92, u93, G204, rfl, eG205, S198, h199, h200, ne201, ne202, w203, hw⟩ := hw
      have hw := hK86 _ (cW_forS0 (rng_len _ _).symm hw)
      have hw : cW (F__law_rows_r1  (rows_87)) _ EE := hw
      unfold F__law_rows_r1 at hw
      refine ⟨_, rfl, ?_⟩
      have hw := cW_ok hw
      exact hK0 _ hw _ _ _ _ _ fr77 ((fun b hb => Sep.h0 S198 (((fun b hb => (.tail _ (.tail _ (List.mem_append_left _ hb)))) : ∀ b ∈ L89, b ∈ (p64 :: (p70 :: (L89 ++ [])))) b hb) nm_nil) : ∀ b ∈ L89, H b = none) (ne202 : ∀ b ∈ L89, b ≠ p70) S198.b0 S198.g0 S198.sG S198.gn (S198.ow _ (.tail _ (.head _))).1 ((fun b hb => (S198.ow b (((fun b hb => (.tail _ (.tail _ (List.mem_append_left _ hb)))) : ∀ b ∈ L89, b ∈ (p64 :: (p70 :: (L89 ++ [])))) b hb)).1) : ∀ b ∈ L89, G204 b = none) h200 w203

abbrev N_check_size : List Str := ["size"]
theorem sc_check_size : FnScope N_check_size ["size"] (defScope s_check_size) := ⟨rfl, rfl, rfl, by decide +kernel, rfl, by decide +kernel, by decide +kernel⟩
theorem ok_check_size (D : DefX K mg "check_size" s_check_size ["size"] pats_check_size) (T : Txt K mg AD)  : CalX P w K mg base 1 "check_size" (sp_check_size K AD) pats_check_size := by
  refine D.ok sc_check_size (fun vs H Q E h => ?_) (fun f cdv A_ outer s H vs Q E hr h => ?_)
  · obtain ⟨G, size', rfl, _⟩ := h
    rfl
  · obtain ⟨G, size', rfl, sG, hw⟩ := h
    refine ⟨_, (pss_one (ps_if (pt_cmpR (op_notInI (K := K)) (pv 0) (C8.pe_gc (v := V.ref AD.t_SIZES) rfl T.g_SIZES) (by with_unfolding_all rfl)) (pss_one (ps_raise rfl (takes_of rfl rfl rfl rfl) (pmk_own PySem.F.excBase_ValueError T.xx_OutOfRange T.xg_OutOfRange T.xk_OutOfRange (raises_own T.xb_OutOfRange T.xt_OutOfRange) rfl))) pss_nil)), ?_⟩
    obtain ⟨KK, EE, hK0, hE, hw⟩ := cW_gen hw
    have S0 := Sep.startG sG
    unfold F_check_size at hw
    refine ⟨_, rfl, _, _, ([4, 8] : List Int), rfl, rfl, (.inr (T.ts_SIZES _)), _, rfl, ?_⟩
    refine iteN (fun c207 => ?_) (fun c207 => ?_)
    · have hw := cW_neg c207 hw
      exact hE 1 (cW_er hw)
    · have hw := cW_pos c207 hw
      have hw := cW_ok hw
      exact hK0 _ hw

abbrev N_check_square : List Str := ["square", "row"]
theorem sc_check_square : FnScope N_check_square ["square"] (defScope s_check_square) := ⟨rfl, rfl, rfl, by decide +kernel, rfl, by decide +kernel, by decide +kernel⟩
theorem ok_check_square (D : DefX K mg "check_square" s_check_square ["square"] pats_check_square) (T : Txt K mg AD) (c_check_size : CalX P w K mg base 1 "check_size" (sp_check_size K AD) pats_check_size) : CalX P w K mg base 2 "check_square" (sp_check_square K AD) pats_check_square := by
  refine D.ok sc_check_square (fun vs H Q E h => ?_) (fun f cdv A_ outer s H vs Q E hr h => ?_)
  · obtain ⟨G, v_square, square', rfl, _⟩ := h
    rfl
  · obtain ⟨G, v_square, square', rfl, sG, r_square, hw⟩ := h
    refine ⟨_, (pss_cons (ps_expr (vx_callX c_check_size pat_check_size_0 (.head _) hr (by decide) (takes_of rfl rfl rfl rfl) rfl (pa_cons (pe_callB (call_lenLK (K := K)) (by rfl) T.b_len (by decide +kernel) (pa_cons (pv 0) pa_nil)) pa_nil) pk_nil))
      (pss_one (ps_for (passes_of rfl) rfl (pi_listK (K := K) (pv 0)) (pg_name (i := 1) sc_check_square.nd rfl (Or.inl rfl)) (pss_one (ps_if (pt_cmp (pc_neI (pe_callB (call_lenLiK (K := K)) (by rfl) T.b_len (by decide +kernel) (pa_cons (pv 1) pa_nil)) (pe_callB (call_lenLK (K := K)) (by rfl) T.b_len (by decide +kernel) (pa_cons (pv 0) pa_nil)))) (pss_one (ps_raise rfl (takes_of rfl rfl rfl rfl) (pmk_own PySem.F.excBase_ValueError T.xx_OutOfRange T.xg_OutOfRange T.xk_OutOfRange (raises_own T.xb_OutOfRange T.xt_OutOfRange) rfl))) pss_nil))))), ?_⟩
    obtain ⟨KK, EE, hK0, hE, hw⟩ := cW_gen hw
    have S0 := Sep.startG sG
    unfold F_check_square at hw
    obtain ⟨a208, vs209, rfl, h210, d211⟩ := rp_list r_square
    refine ⟨_, rfl, _, _, _, rfl, (SqL.of (S0.bM _ _ h210)), (by rw [d211.len, List.length_map]), rfl, rfl, G, _, rfl, S0.sG, cW_call hw (fun v212 hw => ?_) (fun e he => hE e he _ S0.b0)⟩
    obtain ⟨K214, hK215, hw⟩ := cW_push hw
    refine ⟨_, rfl, _, rfl, ⟨_, (SqL.of (S0.bM _ _ h210))⟩, for_list (K := K) (a := a208) (xs := vs209) (fun i σ H' => ∃ (u216 : Option V) (G' : Hp), σ = [some (V.ref a208), u216] ∧ Same G G' ∧ Sep [] H G G' H' [] ∧ cW (forS (List.drop i (square')) () (fun s x => F_check_square_b1 (square')  x)) K214 EE) ?_ ?_ ?_ ?_⟩
    · exact ⟨_, _, rfl, (Same.refl _), S0, hw⟩
    · intro i σ H217 _ hw
      obtain ⟨u216, G219, rfl, eG220, S218, hw⟩ := hw
      exact (SqL.of (S218.bM _ _ h210))
    · intro i x σ H221 hj hw
      obtain ⟨u216, G223, rfl, eG224, S222, hw⟩ := hw
      obtain ⟨x225, hx, r226⟩ := RpAll.get d211 hj
      obtain ⟨a227, rfl, h228⟩ := rp_ints r226
      have hw := cW_forS hx hw
      have hw : cW (F_check_square_b1 (square')  (x225)) _ EE := hw
      unfold F_check_square_b1 at hw
      obtain ⟨K229, hK230, hw⟩ := cW_name hw
      refine ⟨_, rfl, _, _, rfl, (SqL.of (S222.bM _ _ h228)), _, rfl, _, _, _, rfl, (SqL.of (S222.bM _ _ h210)), (by rw [d211.len, List.length_map]), _, _, rfl, rfl, _, rfl, ?_⟩
      refine iteN (fun c232 => ?_) (fun c232 => ?_)
      · have hw := cW_neg c232 hw
        exact hE 1 (cW_er hw) _ S222.b0
      · have hw := cW_pos c232 hw
        have hw := cW_ok hw
        have hw := hK230 _ hw
        exact ⟨_, _, rfl, eG224, S222, hw⟩
    · intro σ H233 hw
      obtain ⟨u216, G235, rfl, eG236, S234, hw⟩ := hw
      have hw := hK215 _ (cW_forS0 (by rw [d211.len, List.length_map]) hw)
      have hw : cW (F_check_square_r1  ) _ EE := hw
      unfold F_check_square_r1 at hw
      have hw := cW_ok hw
      exact hK0 _ hw _ S234.b0

abbrev N_transposed : List Str := ["rows", "column"]
theorem sc_transposed : FnScope N_transposed ["rows"] (defScope s_transposed) := ⟨rfl, rfl, rfl, by decide +kernel, rfl, by decide +kernel, by decide +kernel⟩
theorem ok_transposed (D : DefX K mg "transposed" s_transposed ["rows"] pats_transposed) (T : Txt K mg AD)  : CalX P w K mg base 1 "transposed" (sp_transposed K AD) pats_transposed := by
  refine D.ok sc_transposed (fun vs H Q E h => ?_) (fun f cdv A_ outer s H vs Q E hr h => ?_)
  · obtain ⟨G, v_rows, rows', rfl, _⟩ := h
    rfl
  · obtain ⟨G, v_rows, rows', rfl, sG, r_rows, hw⟩ := h
    refine ⟨_, (pss_one (ps_ret (pe_lc (own := [("column", 1)]) (g := gName 1) (by rfl) sc_transposed.nd (Vz.pi_zipN (K := K) rfl T.b_zip (pv 0)) (blkOk_by (own := [("column", 1)]) (N := N_transposed) (sc := defScope s_transposed) (by decide +kernel)) (fun _ _ _ _ _ => (pg_name (i := 1) sc_transposed.nd rfl (Or.inl rfl))) (fun _ _ _ _ _ => pts_nil) (fun _ _ _ _ _ => (pe_callTy (call_listTK (K := K)) (by rfl) T.b_list (by decide +kernel) (pa_cons (pv 1) pa_nil)))))), ?_⟩
    obtain ⟨KK, EE, hK0, hE, hw⟩ := cW_gen hw
    have S0 := Sep.startG sG
    unfold F_transposed at hw
    obtain ⟨a237, vs238, rfl, h239, d240⟩ := rp_list r_rows
    obtain ⟨g241, hw⟩ := cW_grd hw
    obtain ⟨ls242, els243, rws244⟩ := rows_rp (K := K) S0.bM d240
    obtain ⟨K246, hK247, hw⟩ := cW_push hw
    refine ⟨_, rfl, _, ls242, rfl, (SqL.cast (SqL.of (S0.bM _ _ h239)) els243), (by rw [rws244.1]; exact g241), rws244.all, fun D248 n249 => lc_zipN (K := K) (ls := ls242) (xss := rows') (ne_of_len g241) (fun i H' => ∃ (G' : Hp) (acc251 : (List (List Int))) (vs252 : List V) (L250 : List Addr), Same G G' ∧ Sep [] H G G' H' (D248 :: (L250 ++ [])) ∧ H' D248 = some (.lst vs252) ∧ OwAll G' H' L250 vs252 ((acc251 : (List (List Int))).map (oL oI)) ∧ (∀ b ∈ L250, H b = none) ∧ (∀ b ∈ L250, b ≠ D248) ∧ Same H H' ∧ cW (mapA (List.drop i (zipRows (rows'))) acc251 (fun x => noEr (F_transposed_c1  x))) K246 EE) ?_ ?_ ?_ ?_⟩
    · generalize g253 : upd H D248 _ = H254
      obtain ⟨e255, h256⟩ := gen_new n249 g253
      have fr257 := S0.free n249
      have S258 := S0.new n249 e255 h256 fr257
      exact ⟨_, [], [], [], Same.refl _, (S258.sub (all_cons (.head _) (all_app (L := []) all_nil all_nil))), h256, OwAll.nil, all_nil, all_nil, e255, hw⟩
    · intro i H259 _ hw
      obtain ⟨G262, acc264, vs265, L267, eG263, S260, h261, d266, nb268, nd269, eo270, hw⟩ := hw
      exact RowsAt.again els243 (rows_rp (K := K) S260.bM d240)
    · intro i T_ H271 hi n272 hw
      obtain ⟨G275, acc277, vs278, L280, eG276, S273, h274, d279, nb281, nd282, eo283, hw⟩ := hw
      generalize g284 : upd H271 T_ _ = H285
      obtain ⟨e286, h287⟩ := gen_new n272 g284
      have h288 : H285 T_ = some (.tup ((colOf (rows') i).map V.int)) := h287
      have fr289 := S273.free n272
      obtain ⟨G291, eG292, hg293, S290⟩ := S273.grow n272 e286 h288 fr289
      obtain ⟨z294, hw⟩ := cW_mapA (zipRows_get hi) hw
      have hw := cW_noEr hw
      have hw : cW (F_transposed_c1  ((colOf (rows') i))) _ (fun _ => False) := hw
      unfold F_transposed_c1 at hw
      refine ⟨rfl, ?_⟩
      refine tyes_go ?_
      refine ⟨_, rfl, _, _, rfl, (SqT.of (S290.sG _ _ hg293)), fun p296 n297 => ?_⟩
      generalize g298 : upd H285 p296 _ = H299
      obtain ⟨e300, h301⟩ := gen_new n297 g298
      have h302 : H299 p296 = some (.lst (((colOf (rows') i) : (List Int)).map V.int)) := h301
      have fr303 := S290.free n297
      have S304 := S290.new n297 e300 h302 fr303
      have w305 : OwAll G291 H299 L280 (vs278) ((acc277 : (List (List Int))).map (oL oI)) := (OwAll.mono eG292 keeps_refl (OwAll.mono (Same.refl _) (keeps_same e300) (OwAll.mono (Same.refl _) (keeps_same e286) d279)))
      have h306 := (e300 _ _ (e286 _ _ h274))
      refine ⟨_, h306, (app_len (OwAll.rpA w305 (encO_L encO_I) S304.sG) z294), ?_⟩
      generalize g307 : upd H299 D248 _ = H308
      obtain ⟨x309, h310⟩ := gen_mut g307
      have S311 := S304.mut1 x309 (.tail _ (.head _)) h310
      have hw := cW_ok hw
      exact ⟨_, (acc277 ++ [(colOf (rows') i)]), _, (L280 ++ (p296 :: ([] : List Addr))), (Same.trans eG276 eG292), (S311.sub (all_cons (.tail _ (.head _)) (all_app (all_app ((fun b hb => (.tail _ (.tail _ (List.mem_append_left _ hb)))) : ∀ b ∈ L280, b ∈ (p296 :: (D248 :: (L280 ++ [])))) (all_cons (.head _) all_nil)) all_nil))), h310, (OwAll.mono (Same.refl _) (keeps_mut x309 ((all_app nd282 (all_cons (ne_of_none (e286 _ _ h274) n297).symm all_nil)) : ∀ b ∈ (L280 ++ (p296 :: ([] : List Addr))), b ≠ D248)) (OwAll.snocM w305 (Ow.ints h302) ((fun b hb => (nm_cons ((there_ne (fun b_ hb_ => (S290.ow b_ (((fun b hb => (.tail _ (List.mem_append_left _ hb))) : ∀ b ∈ L280, b ∈ (D248 :: (L280 ++ []))) b_ hb_)).2.1) n297) b hb) nm_nil)) : ∀ b ∈ L280, b ∉ (p296 :: ([] : List Addr))))), ((all_app nb281 (all_cons (none_of_same (Same.trans eo283 e286) n297) all_nil)) : ∀ b ∈ (L280 ++ (p296 :: ([] : List Addr))), H b = none), ((all_app nd282 (all_cons (ne_of_none (e286 _ _ h274) n297).symm all_nil)) : ∀ b ∈ (L280 ++ (p296 :: ([] : List Addr))), b ≠ D248), (same_mut (Same.trans (Same.trans eo283 e286) e300) x309 n249), hw⟩
    intro H312 hw
    obtain ⟨G315, acc317, vs318, L320, eG316, S313, h314, d319, nb321, nd322, eo323, hw⟩ := hw
    have hw := hK247 _ (cW_mapA0 (zipRows_len _).symm hw)
    have fr324 := S0.free n249
    have hw := cW_ok hw
    exact hK0 _ hw _ _ _ _ _ fr324 ((fun b hb => Sep.h0 S313 (((fun b hb => (.tail _ (List.mem_append_left _ hb))) : ∀ b ∈ L320, b ∈ (D248 :: (L320 ++ []))) b hb) nm_nil) : ∀ b ∈ L320, H b = none) (nd322 : ∀ b ∈ L320, b ≠ D248) S313.b0 S313.g0 S313.sG S313.gn (S313.ow _ (.head _)).1 ((fun b hb => (S313.ow b (((fun b hb => (.tail _ (List.mem_append_left _ hb))) : ∀ b ∈ L320, b ∈ (D248 :: (L320 ++ []))) b hb)).1) : ∀ b ∈ L320, G315 b = none) h314 d319

abbrev N_split_pair : List Str := ["first", "second"]
theorem sc_split_pair : FnScope N_split_pair ["first", "second"] (defScope s_split_pair) := ⟨rfl, rfl, rfl, by decide +kernel, rfl, by decide +kernel, by decide +kernel⟩
theorem ok_split_pair (D : DefX K mg "split_pair" s_split_pair ["first", "second"] pats_split_pair) (T : Txt K mg AD)  : CalX P w K mg base 1 "split_pair" (sp_split_pair K AD) pats_split_pair := by
  refine D.ok sc_split_pair (fun vs H Q E h => ?_) (fun f cdv A_ outer s H vs Q E hr h => ?_)
  · obtain ⟨G, first', second', rfl, _⟩ := h
    rfl
  · obtain ⟨G, first', second', rfl, sG, hw⟩ := h
    refine ⟨_, (pss_one (ps_ret (pe_tup (pa_cons (pe_op op_shr (pe_op op_add (pv 0) (pv 1)) pe_int) (pa_cons (pe_op op_sub (pv 0) (pv 1)) pa_nil))))), ?_⟩
    obtain ⟨KK, EE, hK0, hE, hw⟩ := cW_gen hw
    have S0 := Sep.startG sG
    unfold F_split_pair at hw
    refine ⟨_, rfl, _, rfl, _, _, rfl, rfl, _, _, rfl, rfl, (show (0 : Int) ≤ 1 by decide), _, rfl, _, rfl, _, _, rfl, rfl, (by show 2 ≤ sizeLine; decide), fun p325 n326 => ?_⟩
    generalize g327 : upd H p325 _ = H328
    obtain ⟨e329, h330⟩ := gen_new n326 g327
    have h331 : H328 p325 = some (.tup [V.int (((first' + second') / 2)), V.int ((first' - second'))]) := h330
    have fr332 := S0.free n326
    obtain ⟨G334, eG335, hg336, S333⟩ := S0.grow n326 e329 h331 fr332
    have hw := cW_ok hw
    exact hK0 _ hw _ _ _ S333.b0 S333.g0 S333.sG S333.gn (rp_mk2 hg336 (.int _) (.int _))

abbrev N_turn_pair : List Str := ["first", "second", "outer", "inner"]
theorem sc_turn_pair : FnScope N_turn_pair ["first", "second", "outer", "inner"] (defScope s_turn_pair) := ⟨rfl, rfl, rfl, by decide +kernel, rfl, by decide +kernel, by decide +kernel⟩
theorem ok_turn_pair (D : DefX K mg "turn_pair" s_turn_pair ["first", "second", "outer", "inner"] pats_turn_pair) (T : Txt K mg AD)  : CalX P w K mg base 1 "turn_pair" (sp_turn_pair K AD) pats_turn_pair := by
  refine D.ok sc_turn_pair (fun vs H Q E h => ?_) (fun f cdv A_ outer s H vs Q E hr h => ?_)
  · obtain ⟨G, first', second', outer', inner', rfl, _⟩ := h
    rfl
  · obtain ⟨G, first', second', outer', inner', rfl, sG, hw⟩ := h
    refine ⟨_, (pss_cons (ps_aug (i := 1) sc_turn_pair.nd rfl (Or.inl rfl) (pe_op op_shr (pe_op op_add (pe_op op_mul (pv 2) (pv 0)) pe_int) pe_int) (pip iop_add))
      (pss_cons (ps_aug (i := 0) sc_turn_pair.nd rfl (Or.inl rfl) (pe_op op_shr (pe_op op_add (pe_op op_mul (pv 3) (pv 1)) pe_int) pe_int) (pip iop_sub))
      (pss_cons (ps_aug (i := 1) sc_turn_pair.nd rfl (Or.inl rfl) (pe_op op_shr (pe_op op_add (pe_op op_mul (pv 2) (pv 0)) pe_int) pe_int) (pip iop_add))
      (pss_one (ps_ret (pe_tup (pa_cons (pv 0) (pa_cons (pv 1) pa_nil)))))))), ?_⟩
    obtain ⟨KK, EE, hK0, hE, hw⟩ := cW_gen hw
    have S0 := Sep.startG sG
    unfold F_turn_pair at hw
    obtain ⟨g337, hw⟩ := cW_grd hw
    refine ⟨_, rfl, _, rfl, _, rfl, _, _, rfl, rfl, g337, _, _, rfl, rfl, _, _, rfl, rfl, (show (0 : Int) ≤ 5 by decide), _, _, rfl, rfl, ?_⟩
    have hw := cW_bnd hw
    obtain ⟨g339, hw⟩ := cW_grd hw
    refine ⟨_, rfl, _, rfl, _, rfl, _, _, rfl, rfl, g339, _, _, rfl, rfl, _, _, rfl, rfl, (show (0 : Int) ≤ 5 by decide), _, _, rfl, rfl, ?_⟩
    have hw := cW_bnd hw
    obtain ⟨g341, hw⟩ := cW_grd hw
    refine ⟨_, rfl, _, rfl, _, rfl, _, _, rfl, rfl, g341, _, _, rfl, rfl, _, _, rfl, rfl, (show (0 : Int) ≤ 5 by decide), _, _, rfl, rfl, ?_⟩
    have hw := cW_bnd hw
    refine ⟨_, rfl, _, rfl, (by show 2 ≤ sizeLine; decide), fun p343 n344 => ?_⟩
    generalize g345 : upd H p343 _ = H346
    obtain ⟨e347, h348⟩ := gen_new n344 g345
    have h349 : H346 p343 = some (.tup [V.int ((first' - (((inner' * (second' + (((outer' * first') + 16) / 32))) + 16) / 32))), V.int (((second' + (((outer' * first') + 16) / 32)) + (((outer' * (first' - (((inner' * (second' + (((outer' * first') + 16) / 32))) + 16) / 32))) + 16) / 32)))]) := h348
    have fr350 := S0.free n344
    obtain ⟨G352, eG353, hg354, S351⟩ := S0.grow n344 e347 h349 fr350
    have hw := cW_ok hw
    exact hK0 _ hw _ _ _ S351.b0 S351.g0 S351.sG S351.gn (rp_mk2 hg354 (.int _) (.int _))

abbrev N__forward_four : List Str := ["values", "x0", "x1", "x2", "x3", "l0", "h0", "l1", "h1", "c0", "c2", "c1", "c3"]
theorem sc__forward_four : FnScope N__forward_four ["values"] (defScope s__forward_four) := ⟨rfl, rfl, rfl, by decide +kernel, rfl, by decide +kernel, by decide +kernel⟩
theorem ok__forward_four (D : DefX K mg "_forward_four" s__forward_four ["values"] pats__forward_four) (T : Txt K mg AD) (c_split_pair : CalX P w K mg base 1 "split_pair" (sp_split_pair K AD) pats_split_pair) (c_turn_pair : CalX P w K mg base 1 "turn_pair" (sp_turn_pair K AD) pats_turn_pair) : CalX P w K mg base 2 "_forward_four" (sp__forward_four K AD) pats__forward_four := by
  refine D.ok sc__forward_four (fun vs H Q E h => ?_) (fun f cdv A_ outer s H vs Q E hr h => ?_)
  · obtain ⟨G, a_values, values', rfl, _⟩ := h
    rfl
  · obtain ⟨G, a_values, values', rfl, sG, q_values, hw⟩ := h
    refine ⟨_, (C8.pss_cut (ps_asg (pv 0) (pg_seqK (K := K) (n := 4) (pgs_cons (pg_name (i := 1) sc__forward_four.nd rfl (Or.inl rfl)) (pgs_cons (pg_name (i := 2) sc__forward_four.nd rfl (Or.inl rfl)) (pgs_cons (pg_name (i := 3) sc__forward_four.nd rfl (Or.inl rfl)) (pgs_cons (pg_name (i := 4) sc__forward_four.nd rfl (Or.inl rfl)) pgs_nil))))))
      (C8.pss_cut (ps_asg (vx_callX c_split_pair pat_split_pair_0 (.head _) hr (by decide) (takes_of rfl rfl rfl rfl) rfl (pa_cons (pv 1) (pa_cons (pv 4) pa_nil)) pk_nil) (pg_tupK (K := K) (n := 2) (pgs_cons (pg_name (i := 5) sc__forward_four.nd rfl (Or.inl rfl)) (pgs_cons (pg_name (i := 6) sc__forward_four.nd rfl (Or.inl rfl)) pgs_nil))))
      (C8.pss_cut (ps_asg (vx_callX c_split_pair pat_split_pair_0 (.head _) hr (by decide) (takes_of rfl rfl rfl rfl) rfl (pa_cons (pv 2) (pa_cons (pv 3) pa_nil)) pk_nil) (pg_tupK (K := K) (n := 2) (pgs_cons (pg_name (i := 7) sc__forward_four.nd rfl (Or.inl rfl)) (pgs_cons (pg_name (i := 8) sc__forward_four.nd rfl (Or.inl rfl)) pgs_nil))))
      (C8.pss_cut (ps_asg (vx_callX c_split_pair pat_split_pair_0 (.head _) hr (by decide) (takes_of rfl rfl rfl rfl) rfl (pa_cons (pv 5) (pa_cons (pv 7) pa_nil)) pk_nil) (pg_tupK (K := K) (n := 2) (pgs_cons (pg_name (i := 9) sc__forward_four.nd rfl (Or.inl rfl)) (pgs_cons (pg_name (i := 10) sc__forward_four.nd rfl (Or.inl rfl)) pgs_nil))))
      (C8.pss_cut (ps_asg (vx_callX c_turn_pair pat_turn_pair_0 (.head _) hr (by decide) (takes_of rfl rfl rfl rfl) rfl (pa_cons (pv 6) (pa_cons (pv 8) pa_nil)) (pk_cons pe_int (pk_cons pe_int pk_nil))) (pg_tupK (K := K) (n := 2) (pgs_cons (pg_name (i := 11) sc__forward_four.nd rfl (Or.inl rfl)) (pgs_cons (pg_name (i := 12) sc__forward_four.nd rfl (Or.inl rfl)) pgs_nil))))
      (pss_one (ps_ret (pe_lst (pa_cons (pv 9) (pa_cons (pv 11) (pa_cons (pv 10) (pa_cons (pv 12) pa_nil)))))))))))), ?_⟩
    obtain ⟨KK, EE, hK0, hE, hw⟩ := cW_gen hw
    have S0 := Sep.startG sG
    unfold F__forward_four at hw
    refine ⟨fun σ H' => ∃ (x0_359 : Int) (x1_360 : Int) (x2_361 : Int) (x3_362 : Int) (G' : Hp), σ = [some (V.ref a_values), some (V.int x0_359), some (V.int x1_360), some (V.int x2_361), some (V.int x3_362), none, none, none, none, none, none, none, none] ∧ Same G G' ∧ Sep [] H G G' H' [] ∧ cW (F__forward_four_k1  x0_359 x1_360 x2_361 x3_362) KK EE, ?_, ?_⟩
    · obtain ⟨K363, hK364, hw⟩ := cW_push hw
      obtain ⟨g365, hw⟩ := cW_grd hw
      refine ⟨_, rfl, _, [V.int ((itD (values') 0)), V.int ((itD (values') 1)), V.int ((itD (values') 2)), V.int ((itD (values') 3))], rfl, (SqL.cast (SqL.of (S0.bM _ _ q_values)) (unp4 g365)), rfl, _, _, rfl, _, _, rfl, _, _, rfl, _, _, rfl, rfl, ?_⟩
      have hw := cW_bnd hw
      have hw := cW_bnd hw
      have hw := cW_bnd hw
      have hw := cW_bnd hw
      have hw := cW_ok hw
      have hw := hK364 _ hw
      exact ⟨((itD (values') 0)), ((itD (values') 1)), ((itD (values') 2)), ((itD (values') 3)), _, rfl, (Same.refl _), S0, hw⟩
    · intro σ H370 hw
      obtain ⟨x0_359, x1_360, x2_361, x3_362, G372, rfl, eG373, S371, hw⟩ := hw
      unfold F__forward_four_k1 at hw
      refine ⟨fun σ H' => ∃ (l0_378 : Int) (h0_379 : Int) (G' : Hp), σ = [some (V.ref a_values), some (V.int (x0_359)), some (V.int (x1_360)), some (V.int (x2_361)), some (V.int (x3_362)), some (V.int l0_378), some (V.int h0_379), none, none, none, none, none, none] ∧ Same G372 G' ∧ Sep [] H G G' H' [] ∧ cW (F__forward_four_k2 (x1_360) (x2_361) l0_378 h0_379) KK EE, ?_, ?_⟩
      · obtain ⟨K380, hK381, hw⟩ := cW_push hw
        refine ⟨_, rfl, _, rfl, rfl, rfl, G372, _, _, rfl, S371.sG, cW_call hw (fun v382 hw v385 H383 G386 e384 eG387 sG388 hn389 r390 => ?_) (fun e he H2 e2 => hE e he H2 (Same.trans S371.b0 e2))⟩
        have S391 := S371.step e384 eG387 sG388 hn389
        obtain ⟨a392, v394, v395, rfl, h393, r396, r397⟩ := rp_tup2 r390
        obtain rfl := rp_int r396
        obtain rfl := rp_int r397
        refine ⟨_, _, rfl, (SqT.of (S391.sG _ _ h393)), rfl, _, _, rfl, _, _, rfl, rfl, ?_⟩
        have hw := cW_ok hw
        have hw := hK381 _ hw
        exact ⟨(v382.1), (v382.2), _, rfl, eG387, S391, hw⟩
      · intro σ H398 hw
        obtain ⟨l0_378, h0_379, G400, rfl, eG401, S399, hw⟩ := hw
        unfold F__forward_four_k2 at hw
        refine ⟨fun σ H' => ∃ (l1_406 : Int) (h1_407 : Int) (G' : Hp), σ = [some (V.ref a_values), some (V.int (x0_359)), some (V.int (x1_360)), some (V.int (x2_361)), some (V.int (x3_362)), some (V.int (l0_378)), some (V.int (h0_379)), some (V.int l1_406), some (V.int h1_407), none, none, none, none] ∧ Same G400 G' ∧ Sep [] H G G' H' [] ∧ cW (F__forward_four_k3 (l0_378) (h0_379) l1_406 h1_407) KK EE, ?_, ?_⟩
        · obtain ⟨K408, hK409, hw⟩ := cW_push hw
          refine ⟨_, rfl, _, rfl, rfl, rfl, G400, _, _, rfl, S399.sG, cW_call hw (fun v410 hw v413 H411 G414 e412 eG415 sG416 hn417 r418 => ?_) (fun e he H2 e2 => hE e he H2 (Same.trans S399.b0 e2))⟩
          have S419 := S399.step e412 eG415 sG416 hn417
          obtain ⟨a420, v422, v423, rfl, h421, r424, r425⟩ := rp_tup2 r418
          obtain rfl := rp_int r424
          obtain rfl := rp_int r425
          refine ⟨_, _, rfl, (SqT.of (S419.sG _ _ h421)), rfl, _, _, rfl, _, _, rfl, rfl, ?_⟩
          have hw := cW_ok hw
          have hw := hK409 _ hw
          exact ⟨(v410.1), (v410.2), _, rfl, eG415, S419, hw⟩
        · intro σ H426 hw
          obtain ⟨l1_406, h1_407, G428, rfl, eG429, S427, hw⟩ := hw
          unfold F__forward_four_k3 at hw
          refine ⟨fun σ H' => ∃ (c0_434 : Int) (c2_435 : Int) (G' : Hp), σ = [some (V.ref a_values), some (V.int (x0_359)), some (V.int (x1_360)), some (V.int (x2_361)), some (V.int (x3_362)), some (V.int (l0_378)), some (V.int (h0_379)), some (V.int (l1_406)), some (V.int (h1_407)), some (V.int c0_434), some (V.int c2_435), none, none] ∧ Same G428 G' ∧ Sep [] H G G' H' [] ∧ cW (F__forward_four_k4 (h0_379) (h1_407) c0_434 c2_435) KK EE, ?_, ?_⟩
          · obtain ⟨K436, hK437, hw⟩ := cW_push hw
            refine ⟨_, rfl, _, rfl, rfl, rfl, G428, _, _, rfl, S427.sG, cW_call hw (fun v438 hw v441 H439 G442 e440 eG443 sG444 hn445 r446 => ?_) (fun e he H2 e2 => hE e he H2 (Same.trans S427.b0 e2))⟩
            have S447 := S427.step e440 eG443 sG444 hn445
            obtain ⟨a448, v450, v451, rfl, h449, r452, r453⟩ := rp_tup2 r446
            obtain rfl := rp_int r452
            obtain rfl := rp_int r453
            refine ⟨_, _, rfl, (SqT.of (S447.sG _ _ h449)), rfl, _, _, rfl, _, _, rfl, rfl, ?_⟩
            have hw := cW_ok hw
            have hw := hK437 _ hw
            exact ⟨(v438.1), (v438.2), _, rfl, eG443, S447, hw⟩
          · intro σ H454 hw
            obtain ⟨c0_434, c2_435, G456, rfl, eG457, S455, hw⟩ := hw
            unfold F__forward_four_k4 at hw
            refine ⟨fun σ H' => ∃ (c1_462 : Int) (c3_463 : Int) (G' : Hp), σ = [some (V.ref a_values), some (V.int (x0_359)), some (V.int (x1_360)), some (V.int (x2_361)), some (V.int (x3_362)), some (V.int (l0_378)), some (V.int (h0_379)), some (V.int (l1_406)), some (V.int (h1_407)), some (V.int (c0_434)), some (V.int (c2_435)), some (V.int c1_462), some (V.int c3_463)] ∧ Same G456 G' ∧ Sep [] H G G' H' [] ∧ cW (F__forward_four_k5 (c0_434) (c2_435) c1_462 c3_463) KK EE, ?_, ?_⟩
            · obtain ⟨K464, hK465, hw⟩ := cW_push hw
              refine ⟨_, rfl, _, rfl, rfl, rfl, G456, _, _, _, _, rfl, S455.sG, cW_call hw (fun v466 hw v469 H467 G470 e468 eG471 sG472 hn473 r474 => ?_) (fun e he H2 e2 => hE e he H2 (Same.trans S455.b0 e2))⟩
              have S475 := S455.step e468 eG471 sG472 hn473
              obtain ⟨a476, v478, v479, rfl, h477, r480, r481⟩ := rp_tup2 r474
              obtain rfl := rp_int r480
              obtain rfl := rp_int r481
              refine ⟨_, _, rfl, (SqT.of (S475.sG _ _ h477)), rfl, _, _, rfl, _, _, rfl, rfl, ?_⟩
              have hw := cW_ok hw
              have hw := hK465 _ hw
              exact ⟨(v466.1), (v466.2), _, rfl, eG471, S475, hw⟩
            · intro σ H482 hw
              obtain ⟨c1_462, c3_463, G484, rfl, eG485, S483, hw⟩ := hw
              unfold F__forward_four_k5 at hw
              refine ⟨_, rfl, _, rfl, _, rfl, _, rfl, (by show 4 ≤ sizeLine; decide), fun p486 n487 => ?_⟩
              generalize g488 : upd H482 p486 _ = H489
              obtain ⟨e490, h491⟩ := gen_new n487 g488
              have h492 : H489 p486 = some (.lst (([c0_434, c1_462, c2_435, c3_463] : (List Int)).map V.int)) := h491
              have fr493 := S483.free n487
              have S494 := S483.new n487 e490 h492 fr493
              have hw := cW_ok hw
              exact hK0 _ hw _ _ fr493 S494.b0 h492

abbrev N__forward_eight : List Str := ["values", "pairs", "h0", "h1", "h2", "h3", "e0", "e1", "e2", "e3", "d0", "d3", "d1", "d2", "f0", "f1", "f2", "f3", "k", "_", "high", "low"]
theorem sc__forward_eight : FnScope N__forward_eight ["values"] (defScope s__forward_eight) := ⟨rfl, rfl, rfl, by decide +kernel, rfl, by decide +kernel, by decide +kernel⟩
theorem ok__forward_eight (D : DefX K mg "_forward_eight" s__forward_eight ["values"] pats__forward_eight) (T : Txt K mg AD) (c_split_pair : CalX P w K mg base 1 "split_pair" (sp_split_pair K AD) pats_split_pair) (c__forward_four : CalX P w K mg base 2 "_forward_four" (sp__forward_four K AD) pats__forward_four) (c_turn_pair : CalX P w K mg base 1 "turn_pair" (sp_turn_pair K AD) pats_turn_pair) : CalX P w K mg base 3 "_forward_eight" (sp__forward_eight K AD) pats__forward_eight := by
  refine D.ok sc__forward_eight (fun vs H Q E h => ?_) (fun f cdv A_ outer s H vs Q E hr h => ?_)
  · obtain ⟨G, a_values, values', rfl, _⟩ := h
    rfl
  · obtain ⟨G, a_values, values', rfl, sG, q_values, hw⟩ := h
    refine ⟨_, (C8.pss_cut (ps_setLc (i := 1) (y := "pairs") rfl sc__forward_eight.nd rfl rfl (sw_true rfl rfl rfl (by decide +kernel)) (own := [("k", 18)]) (g := gName 18) (pi_range1 rfl T.b_range (pa_cons pe_int pa_nil)) (blkOk_by (own := [("k", 18)]) (N := N__forward_eight) (sc := defScope s__forward_eight) (by decide +kernel)) (fun _ _ _ _ _ => (pg_name (i := 18) sc__forward_eight.nd rfl (Or.inl rfl))) (fun _ _ _ _ _ => pts_nil) (fun _ _ _ _ _ => (vx_callX c_split_pair pat_split_pair_0 (.head _) hr (by decide) takes0 rfl (pa_cons (pe_ix (ix_listK (K := K)) (pv 0) (pv 18) (fun _ _ => rfl)) (pa_cons (pe_ix (ix_listK (K := K)) (pv 0) (pe_op op_sub pe_int (pv 18)) (fun _ _ => rfl)) pa_nil)) pk_nil)))
      (C8.pss_cut (ps_asg (pe_lc (own := [("_", 19), ("high", 20)]) (g := gTup K 2 (gCons (gName 19) (gCons (gName 20) gNil))) (by rfl) sc__forward_eight.nd (pi_listK (K := K) (pv 1)) (blkOk_by (own := [("_", 19), ("high", 20)]) (N := N__forward_eight) (sc := defScope s__forward_eight) (by decide +kernel)) (fun _ _ _ _ _ => (pg_tupK (K := K) (n := 2) (pgs_cons (pg_name (i := 19) sc__forward_eight.nd rfl (Or.inl rfl)) (pgs_cons (pg_name (i := 20) sc__forward_eight.nd rfl (Or.inl rfl)) pgs_nil)))) (fun _ _ _ _ _ => pts_nil) (fun _ _ _ _ _ => (pv 20))) (pg_seqK (K := K) (n := 4) (pgs_cons (pg_name (i := 2) sc__forward_eight.nd rfl (Or.inl rfl)) (pgs_cons (pg_name (i := 3) sc__forward_eight.nd rfl (Or.inl rfl)) (pgs_cons (pg_name (i := 4) sc__forward_eight.nd rfl (Or.inl rfl)) (pgs_cons (pg_name (i := 5) sc__forward_eight.nd rfl (Or.inl rfl)) pgs_nil))))))
      (C8.pss_cut (ps_asg (vx_callX c__forward_four pat__forward_four_0 (.head _) hr (by decide) (takes_of rfl rfl rfl rfl) rfl (pa_cons (pe_lc (own := [("low", 21), ("_", 19)]) (g := gTup K 2 (gCons (gName 21) (gCons (gName 19) gNil))) (by rfl) sc__forward_eight.nd (pi_listK (K := K) (pv 1)) (blkOk_by (own := [("low", 21), ("_", 19)]) (N := N__forward_eight) (sc := defScope s__forward_eight) (by decide +kernel)) (fun _ _ _ _ _ => (pg_tupK (K := K) (n := 2) (pgs_cons (pg_name (i := 21) sc__forward_eight.nd rfl (Or.inl rfl)) (pgs_cons (pg_name (i := 19) sc__forward_eight.nd rfl (Or.inl rfl)) pgs_nil)))) (fun _ _ _ _ _ => pts_nil) (fun _ _ _ _ _ => (pv 21))) pa_nil) pk_nil) (pg_seqK (K := K) (n := 4) (pgs_cons (pg_name (i := 6) sc__forward_eight.nd rfl (Or.inl rfl)) (pgs_cons (pg_name (i := 7) sc__forward_eight.nd rfl (Or.inl rfl)) (pgs_cons (pg_name (i := 8) sc__forward_eight.nd rfl (Or.inl rfl)) (pgs_cons (pg_name (i := 9) sc__forward_eight.nd rfl (Or.inl rfl)) pgs_nil))))))
      (C8.pss_cut (ps_asg (vx_callX c_turn_pair pat_turn_pair_0 (.head _) hr (by decide) (takes_of rfl rfl rfl rfl) rfl (pa_cons (pv 2) (pa_cons (pv 5) pa_nil)) (pk_cons pe_int (pk_cons pe_int pk_nil))) (pg_tupK (K := K) (n := 2) (pgs_cons (pg_name (i := 10) sc__forward_eight.nd rfl (Or.inl rfl)) (pgs_cons (pg_name (i := 11) sc__forward_eight.nd rfl (Or.inl rfl)) pgs_nil))))
      (C8.pss_cut (ps_asg (vx_callX c_turn_pair pat_turn_pair_0 (.head _) hr (by decide) (takes_of rfl rfl rfl rfl) rfl (pa_cons (pv 3) (pa_cons (pv 4) pa_nil)) (pk_cons pe_int (pk_cons pe_int pk_nil))) (pg_tupK (K := K) (n := 2) (pgs_cons (pg_name (i := 12) sc__forward_eight.nd rfl (Or.inl rfl)) (pgs_cons (pg_name (i := 13) sc__forward_eight.nd rfl (Or.inl rfl)) pgs_nil))))
      (C8.pss_cut (ps_asg (vx_callX c_split_pair pat_split_pair_0 (.head _) hr (by decide) (takes_of rfl rfl rfl rfl) rfl (pa_cons (pv 10) (pa_cons (pv 12) pa_nil)) pk_nil) (pg_tupK (K := K) (n := 2) (pgs_cons (pg_name (i := 14) sc__forward_eight.nd rfl (Or.inl rfl)) (pgs_cons (pg_name (i := 15) sc__forward_eight.nd rfl (Or.inl rfl)) pgs_nil))))
      (C8.pss_cut (ps_asg (vx_callX c_split_pair pat_split_pair_0 (.head _) hr (by decide) (takes_of rfl rfl rfl rfl) rfl (pa_cons (pv 13) (pa_cons (pv 11) pa_nil)) pk_nil) (pg_tupK (K := K) (n := 2) (pgs_cons (pg_name (i := 16) sc__forward_eight.nd rfl (Or.inl rfl)) (pgs_cons (pg_name (i := 17) sc__forward_eight.nd rfl (Or.inl rfl)) pgs_nil))))
      (pss_one (ps_ret (pe_lst (pa_cons (pv 6) (pa_cons (pv 14) (pa_cons (pv 7) (pa_cons (pv 16) (pa_cons (pv 8) (pa_cons (pv 15) (pa_cons (pv 9) (pa_cons (pv 17) pa_nil)))))))))))))))))), ?_⟩
    obtain ⟨KK, EE, hK0, hE, hw⟩ := cW_gen hw
    have S0 := Sep.startG sG
    unfold F__forward_eight at hw
    refine ⟨fun σ H' => ∃ (pairs_496 : (List (Int × Int))) (u497 : V) (G' : Hp), σ = [some (V.ref a_values), some u497, none, none, none, none, none, none, none, none, none, none, none, none, none, none, none, none, none, none, none, none] ∧ Same G G' ∧ Sep [] H G G' H' [] ∧ Rp G' u497 ((encL (encT2 PyData.int PyData.int)) pairs_496) ∧ cW (F__forward_eight_k1  pairs_496) KK EE, ?_, ?_⟩
    · obtain ⟨K498, hK499, hw⟩ := cW_push hw
      obtain ⟨K502, hK503, hw⟩ := cW_push hw
      refine ⟨_, rfl, (by decide), (by decide), fun D504 n505 => lc_range (lo := 0) (n := Int.toNat (4)) (fun i H' => ∃ (G' : Hp) (acc507 : (List (Int × Int))) (vs508 : List V), Same G G' ∧ Sep [] H G G' H' [D504] ∧ H' D504 = some (.lst vs508) ∧ RpAll G' vs508 ((acc507 : (List (Int × Int))).map (encT2 PyData.int PyData.int)) ∧ Same H H' ∧ cW (mapA (List.drop i (rng (0) (Int.toNat (4)))) acc507 (fun x => noEr (F__forward_eight_c2 (values') x))) K502 EE) ?_ ?_ ?_⟩
      · generalize g509 : upd H D504 _ = H510
        obtain ⟨e511, h512⟩ := gen_new n505 g509
        have fr513 := S0.free n505
        have S514 := S0.new n505 e511 h512 fr513
        exact ⟨_, [], [], Same.refl _, S514, h512, RpAll.nil, e511, hw⟩
      · intro i H515 hi hw
        obtain ⟨G518, acc520, vs521, eG519, S516, h517, d522, eo526, hw⟩ := hw
        obtain ⟨z527, hw⟩ := cW_mapA (rng_get hi) hw
        generalize (0 + (i : Int)) = x528 at hw ⊢
        have hw := cW_noEr hw
        have hw : cW (F__forward_eight_c2 (values') (x528)) _ (fun _ => False) := hw
        unfold F__forward_eight_c2 at hw
        refine ⟨rfl, ?_⟩
        refine tyes_go ?_
        obtain ⟨g530, hw⟩ := cW_grd hw
        obtain ⟨g531, hw⟩ := cW_grd hw
        refine ⟨_, rfl, _, rfl, _, _, _, _, rfl, rfl, (SqL.of (S516.bM _ _ q_values)), (atI_map g530), _, rfl, _, rfl, _, _, rfl, rfl, _, _, _, _, rfl, rfl, (SqL.of (S516.bM _ _ q_values)), (atI_map g531), rfl, rfl, G518, _, _, rfl, S516.sG, cW_call hw (fun v532 hw v535 H533 G536 e534 eG537 sG538 hn539 r540 => ?_) (fun e he => he.elim)⟩
        have S541 := S516.step e534 eG537 sG538 hn539
        obtain ⟨a542, v544, v545, rfl, h543, r546, r547⟩ := rp_tup2 r540
        obtain rfl := rp_int r546
        obtain rfl := rp_int r547
        have h548 := (e534 _ _ h517)
        refine ⟨_, h548, (app_len (RpAll.mono eG537 d522) z527), ?_⟩
        generalize g549 : upd H533 D504 _ = H550
        obtain ⟨x551, h552⟩ := gen_mut g549
        have S553 := S541.mut1 x551 (.head _) h552
        have hw := cW_ok hw
        exact ⟨_, (acc520 ++ [v532]), _, (Same.trans eG519 eG537), S553, h552, (app_map (RpAll.mono eG537 d522) (RpAll.one (rp_mk2 h543 (.int _) (.int _)))), (same_mut (Same.trans eo526 e534) x551 n505), hw⟩
      intro H554 hw
      obtain ⟨G557, acc559, vs560, eG558, S555, h556, d561, eo565, hw⟩ := hw
      have hw := hK503 _ (cW_mapA0 (rng_len _ _).symm hw)
      have fr566 := S0.free n505
      have hw := cW_ok hw
      have hw := hK499 _ hw
      obtain ⟨G567, eG568, hg569, S570⟩ := Sep.freeze (O' := []) S555 (.head _) h556 fr566 (all_nil)
      exact ⟨(acc559), _, _, rfl, (Same.trans eG558 eG568), S570, (rp_mk_list hg569 (RpAll.mono eG568 d561)), hw⟩
    · intro σ H571 hw
      obtain ⟨pairs_496, u497, G574, rfl, eG575, S572, r573, hw⟩ := hw
      obtain ⟨a576, vs577, rfl, h578, d579⟩ := rp_list r573
      unfold F__forward_eight_k1 at hw
      refine ⟨fun σ H' => ∃ (h0_585 : Int) (h1_586 : Int) (h2_587 : Int) (h3_588 : Int) (G' : Hp), σ = [some (V.ref a_values), some (V.ref a576), some (V.int h0_585), some (V.int h1_586), some (V.int h2_587), some (V.int h3_588), none, none, none, none, none, none, none, none, none, none, none, none, none, none, none, none] ∧ Same G574 G' ∧ Sep [] H G G' H' [] ∧ cW (F__forward_eight_k3 (pairs_496) h0_585 h1_586 h2_587 h3_588) KK EE, ?_, ?_⟩
      · obtain ⟨K589, hK590, hw⟩ := cW_push hw
        obtain ⟨K592, hK593, hw⟩ := cW_push hw
        refine ⟨_, rfl, _, rfl, ⟨_, (SqL.of (S572.sG _ _ h578))⟩, fun D594 n595 => lc_list (K := K) (a := a576) (xs := vs577) (fun i H' => ∃ (G' : Hp) (acc597 : (List Int)), Same G574 G' ∧ Sep [] H G G' H' [D594] ∧ H' D594 = some (.lst ((acc597 : (List Int)).map V.int)) ∧ Same H571 H' ∧ cW (mapA (List.drop i (pairs_496)) acc597 (fun x => noEr (F__forward_eight_c4  x))) K592 EE) ?_ ?_ ?_ ?_⟩
        · generalize g599 : upd H571 D594 _ = H600
          obtain ⟨e601, h602⟩ := gen_new n595 g599
          have fr603 := S572.free n595
          have S604 := S572.new n595 e601 h602 fr603
          exact ⟨_, [], Same.refl _, S604, h602, e601, hw⟩
        · intro i H605 _ hw
          obtain ⟨G608, acc610, eG609, S606, h607, eo616, hw⟩ := hw
          exact (SqL.of (S606.sG _ _ (eG609 _ _ h578)))
        · intro i x H617 hj hw
          obtain ⟨G620, acc622, eG621, S618, h619, eo628, hw⟩ := hw
          obtain ⟨x629, hx, r630⟩ := RpAll.get (RpAll.mono eG621 d579) hj
          obtain ⟨a631, v633, v634, rfl, h632, r635, r636⟩ := rp_tup2 r630
          obtain rfl := rp_int r635
          obtain rfl := rp_int r636
          obtain ⟨z637, hw⟩ := cW_mapA hx hw
          have hw := cW_noEr hw
          have hw : cW (F__forward_eight_c4  (x629)) _ (fun _ => False) := hw
          unfold F__forward_eight_c4 at hw
          refine ⟨_, _, rfl, (SqT.of (S618.sG _ _ h632)), rfl, _, _, rfl, _, _, rfl, rfl, rfl, ?_⟩
          refine tyes_go ?_
          refine ⟨_, rfl, _, h619, (app_lenM z637), ?_⟩
          generalize g639 : upd H617 D594 _ = H640
          obtain ⟨x641, h642⟩ := gen_mut g639
          have S643 := S618.mut1 x641 (.head _) h642
          have hw := cW_ok hw
          exact ⟨_, (acc622 ++ [x629.2]), eG621, S643, (snoc_map h642), (same_mut eo628 x641 n595), hw⟩
        intro H644 hw
        obtain ⟨G647, acc649, eG648, S645, h646, eo655, hw⟩ := hw
        have hw := hK593 _ (cW_mapA0 (by rw [(RpAll.mono eG648 d579).len, List.length_map]) hw)
        have fr656 := S572.free n595
        obtain ⟨g657, hw⟩ := cW_grd hw
        refine ⟨_, [V.int ((itD (acc649) 0)), V.int ((itD (acc649) 1)), V.int ((itD (acc649) 2)), V.int ((itD (acc649) 3))], rfl, (SqL.cast (SqL.of h646) (unp4 g657)), rfl, _, _, rfl, _, _, rfl, _, _, rfl, _, _, rfl, rfl, ?_⟩
        have hw := cW_bnd hw
        have hw := cW_bnd hw
        have hw := cW_bnd hw
        have hw := cW_bnd hw
        have hw := cW_ok hw
        have hw := hK590 _ hw
        exact ⟨((itD (acc649) 0)), ((itD (acc649) 1)), ((itD (acc649) 2)), ((itD (acc649) 3)), _, rfl, eG648, (S645.sub all_nil), hw⟩
      · intro σ H662 hw
        obtain ⟨h0_585, h1_586, h2_587, h3_588, G664, rfl, eG665, S663, hw⟩ := hw
        unfold F__forward_eight_k3 at hw
        refine ⟨fun σ H' => ∃ (e0_674 : Int) (e1_675 : Int) (e2_676 : Int) (e3_677 : Int) (G' : Hp), σ = [some (V.ref a_values), some (V.ref a576), some (V.int (h0_585)), some (V.int (h1_586)), some (V.int (h2_587)), some (V.int (h3_588)), some (V.int e0_674), some (V.int e1_675), some (V.int e2_676), some (V.int e3_677), none, none, none, none, none, none, none, none, none, none, none, none] ∧ Same G664 G' ∧ Sep [] H G G' H' [] ∧ cW (F__forward_eight_k5 (h0_585) (h1_586) (h2_587) (h3_588) e0_674 e1_675 e2_676 e3_677) KK EE, ?_, ?_⟩
        · obtain ⟨K678, hK679, hw⟩ := cW_push hw
          obtain ⟨K681, hK682, hw⟩ := cW_push hw
          refine ⟨_, rfl, _, rfl, ⟨_, (SqL.of (S663.sG _ _ (eG665 _ _ h578)))⟩, fun D683 n684 => lc_list (K := K) (a := a576) (xs := vs577) (fun i H' => ∃ (G' : Hp) (acc686 : (List Int)), Same G664 G' ∧ Sep [] H G G' H' [D683] ∧ H' D683 = some (.lst ((acc686 : (List Int)).map V.int)) ∧ Same H662 H' ∧ cW (mapA (List.drop i (pairs_496)) acc686 (fun x => noEr (F__forward_eight_c6  x))) K681 EE) ?_ ?_ ?_ ?_⟩
          · generalize g688 : upd H662 D683 _ = H689
            obtain ⟨e690, h691⟩ := gen_new n684 g688
            have fr692 := S663.free n684
            have S693 := S663.new n684 e690 h691 fr692
            exact ⟨_, [], Same.refl _, S693, h691, e690, hw⟩
          · intro i H694 _ hw
            obtain ⟨G697, acc699, eG698, S695, h696, eo705, hw⟩ := hw
            exact (SqL.of (S695.sG _ _ (eG698 _ _ (eG665 _ _ h578))))
          · intro i x H706 hj hw
            obtain ⟨G709, acc711, eG710, S707, h708, eo717, hw⟩ := hw
            obtain ⟨x718, hx, r719⟩ := RpAll.get (RpAll.mono eG710 (RpAll.mono eG665 d579)) hj
            obtain ⟨a720, v722, v723, rfl, h721, r724, r725⟩ := rp_tup2 r719
            obtain rfl := rp_int r724
            obtain rfl := rp_int r725
            obtain ⟨z726, hw⟩ := cW_mapA hx hw
            have hw := cW_noEr hw
            have hw : cW (F__forward_eight_c6  (x718)) _ (fun _ => False) := hw
            unfold F__forward_eight_c6 at hw
            refine ⟨_, _, rfl, (SqT.of (S707.sG _ _ h721)), rfl, _, _, rfl, _, _, rfl, rfl, rfl, ?_⟩
            refine tyes_go ?_
            refine ⟨_, rfl, _, h708, (app_lenM z726), ?_⟩
            generalize g728 : upd H706 D683 _ = H729
            obtain ⟨x730, h731⟩ := gen_mut g728
            have S732 := S707.mut1 x730 (.head _) h731
            have hw := cW_ok hw
            exact ⟨_, (acc711 ++ [x718.1]), eG710, S732, (snoc_map h731), (same_mut eo717 x730 n684), hw⟩
          intro H733 hw
          obtain ⟨G736, acc738, eG737, S734, h735, eo744, hw⟩ := hw
          have hw := hK682 _ (cW_mapA0 (by rw [(RpAll.mono eG737 (RpAll.mono eG665 d579)).len, List.length_map]) hw)
          have fr745 := S663.free n684
          refine ⟨rfl, rfl, G736, _, _, rfl, S734.sG, (hide_nil h735), cW_call hw (fun v746 hw p749 H747 n750 e748 h751 => ?_) (fun e he H2 e2 => hE e he H2 (Same.trans S734.b0 e2))⟩
          have h752 : H747 p749 = some (.lst ((v746 : (List Int)).map V.int)) := h751
          have fr753 := S734.free n750
          have S754 := S734.new n750 e748 h752 fr753
          obtain ⟨g755, hw⟩ := cW_grd hw
          refine ⟨_, [V.int ((itD (v746) 0)), V.int ((itD (v746) 1)), V.int ((itD (v746) 2)), V.int ((itD (v746) 3))], rfl, (SqL.cast (SqL.of h752) (unp4 g755)), rfl, _, _, rfl, _, _, rfl, _, _, rfl, _, _, rfl, rfl, ?_⟩
          have hw := cW_bnd hw
          have hw := cW_bnd hw
          have hw := cW_bnd hw
          have hw := cW_bnd hw
          have hw := cW_ok hw
          have hw := hK679 _ hw
          exact ⟨((itD (v746) 0)), ((itD (v746) 1)), ((itD (v746) 2)), ((itD (v746) 3)), _, rfl, eG737, (S754.sub all_nil), hw⟩
        · intro σ H760 hw
          obtain ⟨e0_674, e1_675, e2_676, e3_677, G762, rfl, eG763, S761, hw⟩ := hw
          unfold F__forward_eight_k5 at hw
          refine ⟨fun σ H' => ∃ (d0_772 : Int) (d3_773 : Int) (G' : Hp), σ = [some (V.ref a_values), some (V.ref a576), some (V.int (h0_585)), some (V.int (h1_586)), some (V.int (h2_587)), some (V.int (h3_588)), some (V.int (e0_674)), some (V.int (e1_675)), some (V.int (e2_676)), some (V.int (e3_677)), some (V.int d0_772), some (V.int d3_773), none, none, none, none, none, none, none, none, none, none] ∧ Same G762 G' ∧ Sep [] H G G' H' [] ∧ cW (F__forward_eight_k7 (h1_586) (h2_587) (e0_674) (e1_675) (e2_676) (e3_677) d0_772 d3_773) KK EE, ?_, ?_⟩
          · obtain ⟨K774, hK775, hw⟩ := cW_push hw
            refine ⟨_, rfl, _, rfl, rfl, rfl, G762, _, _, _, _, rfl, S761.sG, cW_call hw (fun v776 hw v779 H777 G780 e778 eG781 sG782 hn783 r784 => ?_) (fun e he H2 e2 => hE e he H2 (Same.trans S761.b0 e2))⟩
            have S785 := S761.step e778 eG781 sG782 hn783
            obtain ⟨a786, v788, v789, rfl, h787, r790, r791⟩ := rp_tup2 r784
            obtain rfl := rp_int r790
            obtain rfl := rp_int r791
            refine ⟨_, _, rfl, (SqT.of (S785.sG _ _ h787)), rfl, _, _, rfl, _, _, rfl, rfl, ?_⟩
            have hw := cW_ok hw
            have hw := hK775 _ hw
            exact ⟨(v776.1), (v776.2), _, rfl, eG781, S785, hw⟩
          · intro σ H792 hw
            obtain ⟨d0_772, d3_773, G794, rfl, eG795, S793, hw⟩ := hw
            unfold F__forward_eight_k7 at hw
            refine ⟨fun σ H' => ∃ (d1_804 : Int) (d2_805 : Int) (G' : Hp), σ = [some (V.ref a_values), some (V.ref a576), some (V.int (h0_585)), some (V.int (h1_586)), some (V.int (h2_587)), some (V.int (h3_588)), some (V.int (e0_674)), some (V.int (e1_675)), some (V.int (e2_676)), some (V.int (e3_677)), some (V.int (d0_772)), some (V.int (d3_773)), some (V.int d1_804), some (V.int d2_805), none, none, none, none, none, none, none, none] ∧ Same G794 G' ∧ Sep [] H G G' H' [] ∧ cW (F__forward_eight_k8 (e0_674) (e1_675) (e2_676) (e3_677) (d0_772) (d3_773) d1_804 d2_805) KK EE, ?_, ?_⟩
            · obtain ⟨K806, hK807, hw⟩ := cW_push hw
              refine ⟨_, rfl, _, rfl, rfl, rfl, G794, _, _, _, _, rfl, S793.sG, cW_call hw (fun v808 hw v811 H809 G812 e810 eG813 sG814 hn815 r816 => ?_) (fun e he H2 e2 => hE e he H2 (Same.trans S793.b0 e2))⟩
              have S817 := S793.step e810 eG813 sG814 hn815
              obtain ⟨a818, v820, v821, rfl, h819, r822, r823⟩ := rp_tup2 r816
              obtain rfl := rp_int r822
              obtain rfl := rp_int r823
              refine ⟨_, _, rfl, (SqT.of (S817.sG _ _ h819)), rfl, _, _, rfl, _, _, rfl, rfl, ?_⟩
              have hw := cW_ok hw
              have hw := hK807 _ hw
              exact ⟨(v808.1), (v808.2), _, rfl, eG813, S817, hw⟩
            · intro σ H824 hw
              obtain ⟨d1_804, d2_805, G826, rfl, eG827, S825, hw⟩ := hw
              unfold F__forward_eight_k8 at hw
              refine ⟨fun σ H' => ∃ (f0_836 : Int) (f1_837 : Int) (G' : Hp), σ = [some (V.ref a_values), some (V.ref a576), some (V.int (h0_585)), some (V.int (h1_586)), some (V.int (h2_587)), some (V.int (h3_588)), some (V.int (e0_674)), some (V.int (e1_675)), some (V.int (e2_676)), some (V.int (e3_677)), some (V.int (d0_772)), some (V.int (d3_773)), some (V.int (d1_804)), some (V.int (d2_805)), some (V.int f0_836), some (V.int f1_837), none, none, none, none, none, none] ∧ Same G826 G' ∧ Sep [] H G G' H' [] ∧ cW (F__forward_eight_k9 (e0_674) (e1_675) (e2_676) (e3_677) (d3_773) (d2_805) f0_836 f1_837) KK EE, ?_, ?_⟩
              · obtain ⟨K838, hK839, hw⟩ := cW_push hw
                refine ⟨_, rfl, _, rfl, rfl, rfl, G826, _, _, rfl, S825.sG, cW_call hw (fun v840 hw v843 H841 G844 e842 eG845 sG846 hn847 r848 => ?_) (fun e he H2 e2 => hE e he H2 (Same.trans S825.b0 e2))⟩
                have S849 := S825.step e842 eG845 sG846 hn847
                obtain ⟨a850, v852, v853, rfl, h851, r854, r855⟩ := rp_tup2 r848
                obtain rfl := rp_int r854
                obtain rfl := rp_int r855
                refine ⟨_, _, rfl, (SqT.of (S849.sG _ _ h851)), rfl, _, _, rfl, _, _, rfl, rfl, ?_⟩
                have hw := cW_ok hw
                have hw := hK839 _ hw
                exact ⟨(v840.1), (v840.2), _, rfl, eG845, S849, hw⟩
              · intro σ H856 hw
                obtain ⟨f0_836, f1_837, G858, rfl, eG859, S857, hw⟩ := hw
                unfold F__forward_eight_k9 at hw
                refine ⟨fun σ H' => ∃ (f2_868 : Int) (f3_869 : Int) (G' : Hp), σ = [some (V.ref a_values), some (V.ref a576), some (V.int (h0_585)), some (V.int (h1_586)), some (V.int (h2_587)), some (V.int (h3_588)), some (V.int (e0_674)), some (V.int (e1_675)), some (V.int (e2_676)), some (V.int (e3_677)), some (V.int (d0_772)), some (V.int (d3_773)), some (V.int (d1_804)), some (V.int (d2_805)), some (V.int (f0_836)), some (V.int (f1_837)), some (V.int f2_868), some (V.int f3_869), none, none, none, none] ∧ Same G858 G' ∧ Sep [] H G G' H' [] ∧ cW (F__forward_eight_k10 (e0_674) (e1_675) (e2_676) (e3_677) (f0_836) (f1_837) f2_868 f3_869) KK EE, ?_, ?_⟩
                · obtain ⟨K870, hK871, hw⟩ := cW_push hw
                  refine ⟨_, rfl, _, rfl, rfl, rfl, G858, _, _, rfl, S857.sG, cW_call hw (fun v872 hw v875 H873 G876 e874 eG877 sG878 hn879 r880 => ?_) (fun e he H2 e2 => hE e he H2 (Same.trans S857.b0 e2))⟩
                  have S881 := S857.step e874 eG877 sG878 hn879
                  obtain ⟨a882, v884, v885, rfl, h883, r886, r887⟩ := rp_tup2 r880
                  obtain rfl := rp_int r886
                  obtain rfl := rp_int r887
                  refine ⟨_, _, rfl, (SqT.of (S881.sG _ _ h883)), rfl, _, _, rfl, _, _, rfl, rfl, ?_⟩
                  have hw := cW_ok hw
                  have hw := hK871 _ hw
                  exact ⟨(v872.1), (v872.2), _, rfl, eG877, S881, hw⟩
                · intro σ H888 hw
                  obtain ⟨f2_868, f3_869, G890, rfl, eG891, S889, hw⟩ := hw
                  unfold F__forward_eight_k10 at hw
                  refine ⟨_, rfl, _, rfl, _, rfl, _, rfl, _, rfl, _, rfl, _, rfl, _, rfl, (by show 8 ≤ sizeLine; decide), fun p892 n893 => ?_⟩
                  generalize g894 : upd H888 p892 _ = H895
                  obtain ⟨e896, h897⟩ := gen_new n893 g894
                  have h898 : H895 p892 = some (.lst (([e0_674, f0_836, e1_675, f2_868, e2_676, f1_837, e3_677, f3_869] : (List Int)).map V.int)) := h897
                  have fr899 := S889.free n893
                  have S900 := S889.new n893 e896 h898 fr899
                  have hw := cW_ok hw
                  exact hK0 _ hw _ _ fr899 S900.b0 h898

abbrev N_forward : List Str := ["values"]
theorem sc_forward : FnScope N_forward ["values"] (defScope s_forward) := ⟨rfl, rfl, rfl, by decide +kernel, rfl, by decide +kernel, by decide +kernel⟩
theorem ok_forward (D : DefX K mg "forward" s_forward ["values"] pats_forward) (T : Txt K mg AD) (c_check_size : CalX P w K mg base 1 "check_size" (sp_check_size K AD) pats_check_size) (c__forward_four : CalX P w K mg base 2 "_forward_four" (sp__forward_four K AD) pats__forward_four) (c__forward_eight : CalX P w K mg base 3 "_forward_eight" (sp__forward_eight K AD) pats__forward_eight) : CalX P w K mg base 4 "forward" (sp_forward K AD) pats_forward := by
  refine D.ok sc_forward (fun vs H Q E h => ?_) (fun f cdv A_ outer s H vs Q E hr h => ?_)
  · obtain ⟨G, a_values, values', rfl, _⟩ := h
    rfl
  · obtain ⟨G, a_values, values', rfl, sG, q_values, hw⟩ := h
    refine ⟨_, (pss_cons (ps_expr (vx_callX c_check_size pat_check_size_0 (.head _) hr (by decide) (takes_of rfl rfl rfl rfl) rfl (pa_cons (pe_callB (call_lenLiK (K := K)) (by rfl) T.b_len (by decide +kernel) (pa_cons (pv 0) pa_nil)) pa_nil) pk_nil))
      (pss_one (ps_ret (pe_ifExp (pt_cmp (pc_eqI (pe_callB (call_lenLiK (K := K)) (by rfl) T.b_len (by decide +kernel) (pa_cons (pv 0) pa_nil)) pe_int)) (vx_callX c__forward_four pat__forward_four_0 (.head _) hr (by decide) (takes_of rfl rfl rfl rfl) rfl (pa_cons (pv 0) pa_nil) pk_nil) (vx_callX c__forward_eight pat__forward_eight_0 (.head _) hr (by decide) (takes_of rfl rfl rfl rfl) rfl (pa_cons (pv 0) pa_nil) pk_nil))))), ?_⟩
    obtain ⟨KK, EE, hK0, hE, hw⟩ := cW_gen hw
    have S0 := Sep.startG sG
    unfold F_forward at hw
    refine ⟨_, rfl, _, _, rfl, (SqL.of (S0.bM _ _ q_values)), rfl, rfl, G, _, rfl, S0.sG, cW_call hw (fun v901 hw => ?_) (fun e he => hE e he _ S0.b0)⟩
    refine ⟨_, rfl, _, _, rfl, (SqL.of (S0.bM _ _ q_values)), _, _, rfl, rfl, _, rfl, ?_⟩
    refine iteD (fun c902 => ?_) (fun c902 => ?_)
    · have hw := cW_pos c902 hw
      refine ⟨_, rfl, rfl, rfl, G, _, _, rfl, S0.sG, (hide_nil (S0.bM _ _ q_values)), cW_call hw (fun v903 hw p906 H904 n907 e905 h908 => ?_) (fun e he H2 e2 => hE e he H2 (Same.trans S0.b0 e2))⟩
      have h909 : H904 p906 = some (.lst ((v903 : (List Int)).map V.int)) := h908
      have fr910 := S0.free n907
      have S911 := S0.new n907 e905 h909 fr910
      have hw := cW_ok hw
      exact hK0 _ hw _ _ fr910 S911.b0 h909
    · have hw := cW_neg c902 hw
      refine ⟨_, rfl, rfl, rfl, G, _, _, rfl, S0.sG, (hide_nil (S0.bM _ _ q_values)), cW_call hw (fun v912 hw p915 H913 n916 e914 h917 => ?_) (fun e he H2 e2 => hE e he H2 (Same.trans S0.b0 e2))⟩
      have h918 : H913 p915 = some (.lst ((v912 : (List Int)).map V.int)) := h917
      have fr919 := S0.free n916
      have S920 := S0.new n916 e914 h918 fr919
      have hw := cW_ok hw
      exact hK0 _ hw _ _ fr919 S920.b0 h918

abbrev N_forward_square : List Str := ["square", "rows", "row", "column"]
theorem sc_forward_square : FnScope N_forward_square ["square"] (defScope s_forward_square) := ⟨rfl, rfl, rfl, by decide +kernel, rfl, by decide +kernel, by decide +kernel⟩
theorem ok_forward_square (D : DefX K mg "forward_square" s_forward_square ["square"] pats_forward_square) (T : Txt K mg AD) (c_check_square : CalX P w K mg base 2 "check_square" (sp_check_square K AD) pats_check_square) (c_forward : CalX P w K mg base 4 "forward" (sp_forward K AD) pats_forward) (c_transposed : CalX P w K mg base 1 "transposed" (sp_transposed K AD) pats_transposed) : CalX P w K mg base 5 "forward_square" (sp_forward_square K AD) pats_forward_square := by
  refine D.ok sc_forward_square (fun vs H Q E h => ?_) (fun f cdv A_ outer s H vs Q E hr h => ?_)
  · obtain ⟨G, v_square, square', rfl, _⟩ := h
    rfl
  · obtain ⟨G, v_square, square', rfl, sG, r_square, hw⟩ := h
    refine ⟨_, (pss_cons (ps_expr (vx_callX c_check_square pat_check_square_0 (.head _) hr (by decide) (takes_of rfl rfl rfl rfl) rfl (pa_cons (pv 0) pa_nil) pk_nil))
      (pss_cons (ps_setLc (i := 1) (y := "rows") rfl sc_forward_square.nd rfl rfl (sw_true rfl rfl rfl (by decide +kernel)) (own := [("row", 2)]) (g := gName 2) (pi_listK (K := K) (pv 0)) (blkOk_by (own := [("row", 2)]) (N := N_forward_square) (sc := defScope s_forward_square) (by decide +kernel)) (fun _ _ _ _ _ => (pg_name (i := 2) sc_forward_square.nd rfl (Or.inl rfl))) (fun _ _ _ _ _ => pts_nil) (fun _ _ _ _ _ => (vx_callX c_forward pat_forward_0 (.head _) hr (by decide) takes0 rfl (pa_cons (pv 2) pa_nil) pk_nil)))
      (pss_one (ps_ret (vx_callX c_transposed pat_transposed_0 (.head _) hr (by decide) (takes_of rfl rfl rfl rfl) rfl (pa_cons (pe_lc (own := [("column", 3)]) (g := gName 3) (by rfl) sc_forward_square.nd (pi_listK (K := K) (vx_callX c_transposed pat_transposed_0 (.head _) hr (by decide) (takes_of rfl rfl rfl rfl) rfl (pa_cons (pv 1) pa_nil) pk_nil)) (blkOk_by (own := [("column", 3)]) (N := N_forward_square) (sc := defScope s_forward_square) (by decide +kernel)) (fun _ _ _ _ _ => (pg_name (i := 3) sc_forward_square.nd rfl (Or.inl rfl))) (fun _ _ _ _ _ => pts_nil) (fun _ _ _ _ _ => (vx_callX c_forward pat_forward_0 (.head _) hr (by decide) takes0 rfl (pa_cons (pv 3) pa_nil) pk_nil))) pa_nil) pk_nil))))), ?_⟩
    obtain ⟨KK, EE, hK0, hE, hw⟩ := cW_gen hw
    have S0 := Sep.startG sG
    unfold F_forward_square at hw
    obtain ⟨a921, vs922, rfl, h923, d924⟩ := rp_list r_square
    refine ⟨_, rfl, rfl, rfl, G, _, _, rfl, S0.sG, (Rp.hide_nil (rp_mk_list (S0.bM _ _ h923) (RpAll.mono S0.bM d924))), cW_call hw (fun v925 hw H926 e927 => ?_) (fun e he H2 e2 => hE e he H2 (Same.trans S0.b0 e2))⟩
    have S928 := S0.same e927
    obtain ⟨K930, hK931, hw⟩ := cW_push hw
    refine ⟨_, rfl, _, rfl, ⟨_, (SqL.of (S928.bM _ _ h923))⟩, fun D932 n933 => lc_list (K := K) (a := a921) (xs := vs922) (fun i H' => ∃ (G' : Hp) (acc935 : (List (List Int))) (vs936 : List V) (L934 : List Addr), Same G G' ∧ Sep [] H G G' H' (D932 :: (L934 ++ [])) ∧ H' D932 = some (.lst vs936) ∧ OwAll G' H' L934 vs936 ((acc935 : (List (List Int))).map (oL oI)) ∧ (∀ b ∈ L934, H926 b = none) ∧ (∀ b ∈ L934, b ≠ D932) ∧ Same H926 H' ∧ cW (mapA (List.drop i (square')) acc935 (fun x => noEr (F_forward_square_c1  x))) K930 EE) ?_ ?_ ?_ ?_⟩
    · generalize g937 : upd H926 D932 _ = H938
      obtain ⟨e939, h940⟩ := gen_new n933 g937
      have fr941 := S928.free n933
      have S942 := S928.new n933 e939 h940 fr941
      exact ⟨_, [], [], [], Same.refl _, (S942.sub (all_cons (.head _) (all_app (L := []) all_nil all_nil))), h940, OwAll.nil, all_nil, all_nil, e939, hw⟩
    · intro i H943 _ hw
      obtain ⟨G946, acc948, vs949, L951, eG947, S944, h945, d950, nb952, nd953, eo954, hw⟩ := hw
      exact (SqL.of (S944.bM _ _ h923))
    · intro i x H955 hj hw
      obtain ⟨G958, acc960, vs961, L963, eG959, S956, h957, d962, nb964, nd965, eo966, hw⟩ := hw
      obtain ⟨x967, hx, r968⟩ := RpAll.get d924 hj
      obtain ⟨a969, rfl, h970⟩ := rp_ints r968
      obtain ⟨z971, hw⟩ := cW_mapA hx hw
      have hw := cW_noEr hw
      have hw : cW (F_forward_square_c1  (x967)) _ (fun _ => False) := hw
      unfold F_forward_square_c1 at hw
      refine ⟨rfl, ?_⟩
      refine tyes_go ?_
      refine ⟨_, rfl, rfl, rfl, G958, _, _, rfl, S956.sG, (hide_nil (S956.bM _ _ h970)), cW_call hw (fun v973 hw p976 H974 n977 e975 h978 => ?_) (fun e he => he.elim)⟩
      have h979 : H974 p976 = some (.lst ((v973 : (List Int)).map V.int)) := h978
      have fr980 := S956.free n977
      have S981 := S956.new n977 e975 h979 fr980
      have w982 : OwAll G958 H974 L963 (vs961) ((acc960 : (List (List Int))).map (oL oI)) := (OwAll.mono (Same.refl _) (keeps_same e975) d962)
      have h983 := (e975 _ _ h957)
      refine ⟨_, h983, (app_len (OwAll.rpA w982 (encO_L encO_I) S981.sG) z971), ?_⟩
      generalize g984 : upd H974 D932 _ = H985
      obtain ⟨x986, h987⟩ := gen_mut g984
      have S988 := S981.mut1 x986 (.tail _ (.head _)) h987
      have hw := cW_ok hw
      exact ⟨_, (acc960 ++ [v973]), _, (L963 ++ (p976 :: ([] : List Addr))), eG959, (S988.sub (all_cons (.tail _ (.head _)) (all_app (all_app ((fun b hb => (.tail _ (.tail _ (List.mem_append_left _ hb)))) : ∀ b ∈ L963, b ∈ (p976 :: (D932 :: (L963 ++ [])))) (all_cons (.head _) all_nil)) all_nil))), h987, (OwAll.mono (Same.refl _) (keeps_mut x986 ((all_app nd965 (all_cons (ne_of_none h957 n977).symm all_nil)) : ∀ b ∈ (L963 ++ (p976 :: ([] : List Addr))), b ≠ D932)) (OwAll.snocM w982 (Ow.ints h979) ((fun b hb => (nm_cons ((there_ne (fun b_ hb_ => (S956.ow b_ (((fun b hb => (.tail _ (List.mem_append_left _ hb))) : ∀ b ∈ L963, b ∈ (D932 :: (L963 ++ []))) b_ hb_)).2.1) n977) b hb) nm_nil)) : ∀ b ∈ L963, b ∉ (p976 :: ([] : List Addr))))), ((all_app nb964 (all_cons (none_of_same eo966 n977) all_nil)) : ∀ b ∈ (L963 ++ (p976 :: ([] : List Addr))), H926 b = none), ((all_app nd965 (all_cons (ne_of_none h957 n977).symm all_nil)) : ∀ b ∈ (L963 ++ (p976 :: ([] : List Addr))), b ≠ D932), (same_mut (Same.trans eo966 e975) x986 n933), hw⟩
    intro H989 hw
    obtain ⟨G992, acc994, vs995, L997, eG993, S990, h991, d996, nb998, nd999, eo1000, hw⟩ := hw
    have hw := hK931 _ (cW_mapA0 (by rw [d924.len, List.length_map]) hw)
    have fr1001 := S928.free n933
    refine ⟨_, rfl, rfl, rfl, G992, _, _, rfl, S990.sG, (Rp.hide_nil (rp_mk_list h991 (OwAll.rpA d996 (encO_L encO_I) S990.sG))), cW_call hw (fun v1002 hw H1003 a1005 vs1006 L1007 G1008 n1009 nb1010 nd1011 e1004 eG1012 sG1013 hn1014 ga1015 gL1016 h1017 w1018 => ?_) (fun e he H2 e2 => hE e he H2 (Same.trans S990.b0 e2))⟩
    have fr1019 := S990.free n1009
    have S1020 : Sep _ _ _ _ H1003 (a1005 :: (L1007 ++ (D932 :: (L997 ++ [])))) := Sep.steptree S990 e1004 eG1012 sG1013 hn1014 (a1005 :: L1007) (all_cons ⟨n1009, ga1015, some_ne h1017⟩ (fun b hb => ⟨nb1010 b hb, gL1016 b hb, OwAll.there w1018 b hb⟩))
    obtain ⟨K1022, hK1023, hw⟩ := cW_push hw
    refine ⟨_, rfl, ⟨_, (SqL.of h1017)⟩, fun D1024 n1025 => lc_list (K := K) (a := a1005) (xs := vs1006) (fun i H' => ∃ (G' : Hp) (acc1027 : (List (List Int))) (vs1028 : List V), Same G1008 G' ∧ Sep [] H G G' H' (D1024 :: (D932 :: (a1005 :: (L997 ++ (L1007 ++ []))))) ∧ H' D932 = some (.lst (vs995)) ∧ H' a1005 = some (.lst (vs1006)) ∧ H' D1024 = some (.lst vs1028) ∧ OwAll G' H' L997 (vs995) ((acc994 : (List (List Int))).map (oL oI)) ∧ OwAll G' H' L1007 (vs1006) ((v1002 : (List (List Int))).map (oL oI)) ∧ RpAll G' vs1028 ((acc1027 : (List (List Int))).map (encL PyData.int)) ∧ Same H1003 H' ∧ cW (mapA (List.drop i (v1002)) acc1027 (fun x => noEr (F_forward_square_c2  x))) K1022 EE) ?_ ?_ ?_ ?_⟩
    · generalize g1029 : upd H1003 D1024 _ = H1030
      obtain ⟨e1031, h1032⟩ := gen_new n1025 g1029
      have fr1033 := S1020.free n1025
      have S1034 := S1020.new n1025 e1031 h1032 fr1033
      have h1035 := (e1031 _ _ (e1004 _ _ h991))
      have h1036 := (e1031 _ _ h1017)
      have w1037 : OwAll G1008 H1030 L997 (vs995) ((acc994 : (List (List Int))).map (oL oI)) := (OwAll.mono eG1012 keeps_refl (OwAll.mono (Same.refl _) (keeps_same e1031) (OwAll.mono (Same.refl _) (keeps_same e1004) d996)))
      have w1038 : OwAll G1008 H1030 L1007 (vs1006) ((v1002 : (List (List Int))).map (oL oI)) := (OwAll.mono (Same.refl _) (keeps_same e1031) w1018)
      exact ⟨_, [], [], Same.refl _, (S1034.sub (all_cons (.head _) (all_cons (.tail _ (.tail _ (List.mem_append_right _ (.head _)))) (all_cons (.tail _ (.head _)) (all_app ((fun b hb => (.tail _ (.tail _ (List.mem_append_right _ (.tail _ (List.mem_append_left _ hb)))))) : ∀ b ∈ L997, b ∈ (D1024 :: (a1005 :: (L1007 ++ (D932 :: (L997 ++ [])))))) (all_app ((fun b hb => (.tail _ (.tail _ (List.mem_append_left _ hb)))) : ∀ b ∈ L1007, b ∈ (D1024 :: (a1005 :: (L1007 ++ (D932 :: (L997 ++ [])))))) all_nil)))))), h1035, h1036, h1032, w1037, w1038, RpAll.nil, e1031, hw⟩
    · intro i H1039 _ hw
      obtain ⟨G1042, acc1044, vs1045, eG1043, S1040, h1051, h1052, h1041, w1053, w1054, d1046, eo1050, hw⟩ := hw
      exact (SqL.of h1052)
    · intro i x H1055 hj hw
      obtain ⟨G1058, acc1060, vs1061, eG1059, S1056, h1067, h1068, h1057, w1069, w1070, d1062, eo1066, hw⟩ := hw
      obtain ⟨x1071, L1072, hx, w1073, hs1074⟩ := OwAll.turn w1070 hj
      obtain ⟨b1075, rfl, rfl, h1076⟩ := Ow.toInts w1073
      have hv1077 := hj
      have hx1078 := hx
      obtain ⟨z1079, hw⟩ := cW_mapA hx hw
      have hw := cW_noEr hw
      have hw : cW (F_forward_square_c2  (x1071)) _ (fun _ => False) := hw
      unfold F_forward_square_c2 at hw
      refine ⟨rfl, ?_⟩
      refine tyes_go ?_
      refine ⟨_, rfl, rfl, rfl, G1058, _, _, rfl, S1056.sG, (hide_nil h1076), cW_call hw (fun v1081 hw p1084 H1082 n1085 e1083 h1086 => ?_) (fun e he => he.elim)⟩
      have h1087 : H1082 p1084 = some (.lst ((v1081 : (List Int)).map V.int)) := h1086
      have fr1088 := S1056.free n1085
      have S1089 := S1056.new n1085 e1083 h1087 fr1088
      obtain ⟨G1090, eG1091, hg1092, S1093⟩ := Sep.freeze (O' := (D1024 :: (D932 :: (a1005 :: (L997 ++ (L1007 ++ [])))))) S1089 (.head _) h1087 fr1088 ((all_cons ⟨(.tail _ (.head _)), (ne_of_none h1057 n1085)⟩ (all_cons ⟨(.tail _ (.tail _ (.head _))), (ne_of_none h1067 n1085)⟩ (all_cons ⟨(.tail _ (.tail _ (.tail _ (.head _)))), (ne_of_none h1068 n1085)⟩ (all_app (fun b hb => ⟨((fun b hb => (.tail _ (.tail _ (.tail _ (.tail _ (List.mem_append_left _ hb)))))) : ∀ b ∈ L997, b ∈ (p1084 :: (D1024 :: (D932 :: (a1005 :: (L997 ++ (L1007 ++ []))))))) b hb, (there_ne (fun b_ hb_ => (S1056.ow b_ (((fun b hb => (.tail _ (.tail _ (.tail _ (List.mem_append_left _ hb))))) : ∀ b ∈ L997, b ∈ (D1024 :: (D932 :: (a1005 :: (L997 ++ (L1007 ++ [])))))) b_ hb_)).2.1) n1085) b hb⟩) (all_app (fun b hb => ⟨((fun b hb => (.tail _ (.tail _ (.tail _ (.tail _ (List.mem_append_right _ (List.mem_append_left _ hb))))))) : ∀ b ∈ L1007, b ∈ (p1084 :: (D1024 :: (D932 :: (a1005 :: (L997 ++ (L1007 ++ []))))))) b hb, (there_ne (fun b_ hb_ => (S1056.ow b_ (((fun b hb => (.tail _ (.tail _ (.tail _ (List.mem_append_right _ (List.mem_append_left _ hb)))))) : ∀ b ∈ L1007, b ∈ (D1024 :: (D932 :: (a1005 :: (L997 ++ (L1007 ++ [])))))) b_ hb_)).2.1) n1085) b hb⟩) all_nil))))))
      have h1094 := (e1083 _ _ h1057)
      refine ⟨_, h1094, (app_len (RpAll.mono eG1091 d1062) z1079), ?_⟩
      generalize g1095 : upd H1082 D1024 _ = H1096
      obtain ⟨x1097, h1098⟩ := gen_mut g1095
      have S1099 := S1093.mut1 x1097 (.head _) h1098
      have hw := cW_ok hw
      have h1100 := (x1097 _ _ (e1083 _ _ h1067) (ne_of_none (e1004 _ _ h991) n1025))
      have h1101 := (x1097 _ _ (e1083 _ _ h1068) (ne_of_none h1017 n1025))
      have w1102 : OwAll G1090 H1096 L997 (vs995) ((acc994 : (List (List Int))).map (oL oI)) := (OwAll.mono eG1091 keeps_refl (OwAll.mono (Same.refl _) (keeps_mut x1097 ((there_ne (fun b_ hb_ => (S1020.ow b_ (((fun b hb => (.tail _ (List.mem_append_right _ (.tail _ (List.mem_append_left _ hb))))) : ∀ b ∈ L997, b ∈ (a1005 :: (L1007 ++ (D932 :: (L997 ++ []))))) b_ hb_)).2.1) n1025) : ∀ b ∈ L997, b ≠ D1024)) (OwAll.mono (Same.refl _) (keeps_same e1083) w1069)))
      have w1103 : OwAll G1090 H1096 L1007 (vs1006) ((v1002 : (List (List Int))).map (oL oI)) := (OwAll.mono eG1091 keeps_refl (OwAll.mono (Same.refl _) (keeps_mut x1097 ((there_ne (fun b_ hb_ => (S1020.ow b_ (((fun b hb => (.tail _ (List.mem_append_left _ hb))) : ∀ b ∈ L1007, b ∈ (a1005 :: (L1007 ++ (D932 :: (L997 ++ []))))) b_ hb_)).2.1) n1025) : ∀ b ∈ L1007, b ≠ D1024)) (OwAll.mono (Same.refl _) (keeps_same e1083) w1070)))
      exact ⟨_, (acc1060 ++ [v1081]), _, (Same.trans eG1059 eG1091), S1099, h1100, h1101, h1098, w1102, w1103, (app_map (RpAll.mono eG1091 d1062) (RpAll.one (rp_mk_ints hg1092))), (same_mut (Same.trans eo1066 e1083) x1097 n1025), hw⟩
    intro H1104 hw
    obtain ⟨G1107, acc1109, vs1110, eG1108, S1105, h1116, h1117, h1106, w1118, w1119, d1111, eo1115, hw⟩ := hw
    have hw := hK1023 _ (cW_mapA0 (by rw [(OwAll.rpA w1119 (encO_L encO_I) S1105.sG).len, List.length_map]) hw)
    have fr1120 := S1020.free n1025
    refine ⟨rfl, rfl, G1107, _, _, rfl, S1105.sG, (Rp.hide_nil (rp_mk_list h1106 (RpAll.mono S1105.sG d1111))), cW_call hw (fun v1121 hw H1122 a1124 vs1125 L1126 G1127 n1128 nb1129 nd1130 e1123 eG1131 sG1132 hn1133 ga1134 gL1135 h1136 w1137 => ?_) (fun e he H2 e2 => hE e he H2 (Same.trans S1105.b0 e2))⟩
    have fr1138 := S1105.free n1128
    have S1139 : Sep _ _ _ _ H1122 (a1124 :: (L1126 ++ (D1024 :: (D932 :: (a1005 :: (L997 ++ (L1007 ++ []))))))) := Sep.steptree S1105 e1123 eG1131 sG1132 hn1133 (a1124 :: L1126) (all_cons ⟨n1128, ga1134, some_ne h1136⟩ (fun b hb => ⟨nb1129 b hb, gL1135 b hb, OwAll.there w1137 b hb⟩))
    have hw := cW_ok hw
    exact hK0 _ hw _ _ _ _ _ fr1138 ((fun b hb => Sep.h0 S1139 (((fun b hb => (.tail _ (List.mem_append_left _ hb))) : ∀ b ∈ L1126, b ∈ (a1124 :: (L1126 ++ (D1024 :: (D932 :: (a1005 :: (L997 ++ (L1007 ++ [])))))))) b hb) nm_nil) : ∀ b ∈ L1126, H b = none) (nd1130 : ∀ b ∈ L1126, b ≠ a1124) S1139.b0 S1139.g0 S1139.sG S1139.gn (S1139.ow _ (.head _)).1 ((fun b hb => (S1139.ow b (((fun b hb => (.tail _ (List.mem_append_left _ hb))) : ∀ b ∈ L1126, b ∈ (a1124 :: (L1126 ++ (D1024 :: (D932 :: (a1005 :: (L997 ++ (L1007 ++ [])))))))) b hb)).1) : ∀ b ∈ L1126, G1127 b = none) h1136 w1137

abbrev N_turn_back : List Str := ["first", "second", "outer", "inner"]
theorem sc_turn_back : FnScope N_turn_back ["first", "second", "outer", "inner"] (defScope s_turn_back) := ⟨rfl, rfl, rfl, by decide +kernel, rfl, by decide +kernel, by decide +kernel⟩
theorem ok_turn_back (D : DefX K mg "turn_back" s_turn_back ["first", "second", "outer", "inner"] pats_turn_back) (T : Txt K mg AD)  : CalX P w K mg base 1 "turn_back" (sp_turn_back K AD) pats_turn_back := by
  refine D.ok sc_turn_back (fun vs H Q E h => ?_) (fun f cdv A_ outer s H vs Q E hr h => ?_)
  · obtain ⟨G, first', second', outer', inner', rfl, _⟩ := h
    rfl
  · obtain ⟨G, first', second', outer', inner', rfl, sG, hw⟩ := h
    refine ⟨_, (pss_cons (ps_aug (i := 1) sc_turn_back.nd rfl (Or.inl rfl) (pe_op op_shr (pe_op op_add (pe_op op_mul (pv 2) (pv 0)) pe_int) pe_int) (pip iop_sub))
      (pss_cons (ps_aug (i := 0) sc_turn_back.nd rfl (Or.inl rfl) (pe_op op_shr (pe_op op_add (pe_op op_mul (pv 3) (pv 1)) pe_int) pe_int) (pip iop_add))
      (pss_cons (ps_aug (i := 1) sc_turn_back.nd rfl (Or.inl rfl) (pe_op op_shr (pe_op op_add (pe_op op_mul (pv 2) (pv 0)) pe_int) pe_int) (pip iop_sub))
      (pss_one (ps_ret (pe_tup (pa_cons (pv 0) (pa_cons (pv 1) pa_nil)))))))), ?_⟩
    obtain ⟨KK, EE, hK0, hE, hw⟩ := cW_gen hw
    have S0 := Sep.startG sG
    unfold F_turn_back at hw
    obtain ⟨g1140, hw⟩ := cW_grd hw
    refine ⟨_, rfl, _, rfl, _, rfl, _, _, rfl, rfl, g1140, _, _, rfl, rfl, _, _, rfl, rfl, (show (0 : Int) ≤ 5 by decide), _, _, rfl, rfl, ?_⟩
    have hw := cW_bnd hw
    obtain ⟨g1142, hw⟩ := cW_grd hw
    refine ⟨_, rfl, _, rfl, _, rfl, _, _, rfl, rfl, g1142, _, _, rfl, rfl, _, _, rfl, rfl, (show (0 : Int) ≤ 5 by decide), _, _, rfl, rfl, ?_⟩
    have hw := cW_bnd hw
    obtain ⟨g1144, hw⟩ := cW_grd hw
    refine ⟨_, rfl, _, rfl, _, rfl, _, _, rfl, rfl, g1144, _, _, rfl, rfl, _, _, rfl, rfl, (show (0 : Int) ≤ 5 by decide), _, _, rfl, rfl, ?_⟩
    have hw := cW_bnd hw
    refine ⟨_, rfl, _, rfl, (by show 2 ≤ sizeLine; decide), fun p1146 n1147 => ?_⟩
    generalize g1148 : upd H p1146 _ = H1149
    obtain ⟨e1150, h1151⟩ := gen_new n1147 g1148
    have h1152 : H1149 p1146 = some (.tup [V.int ((first' + (((inner' * (second' - (((outer' * first') + 16) / 32))) + 16) / 32))), V.int (((second' - (((outer' * first') + 16) / 32)) - (((outer' * (first' + (((inner' * (second' - (((outer' * first') + 16) / 32))) + 16) / 32))) + 16) / 32)))]) := h1151
    have fr1153 := S0.free n1147
    obtain ⟨G1155, eG1156, hg1157, S1154⟩ := S0.grow n1147 e1150 h1152 fr1153
    have hw := cW_ok hw
    exact hK0 _ hw _ _ _ S1154.b0 S1154.g0 S1154.sG S1154.gn (rp_mk2 hg1157 (.int _) (.int _))

abbrev N_join_pair : List Str := ["low", "high", "first"]
theorem sc_join_pair : FnScope N_join_pair ["low", "high"] (defScope s_join_pair) := ⟨rfl, rfl, rfl, by decide +kernel, rfl, by decide +kernel, by decide +kernel⟩
theorem ok_join_pair (D : DefX K mg "join_pair" s_join_pair ["low", "high"] pats_join_pair) (T : Txt K mg AD)  : CalX P w K mg base 1 "join_pair" (sp_join_pair K AD) pats_join_pair := by
  refine D.ok sc_join_pair (fun vs H Q E h => ?_) (fun f cdv A_ outer s H vs Q E hr h => ?_)
  · obtain ⟨G, low', high', rfl, _⟩ := h
    rfl
  · obtain ⟨G, low', high', rfl, sG, hw⟩ := h
    refine ⟨_, (pss_cons (ps_set (i := 2) sc_join_pair.nd rfl (Or.inl rfl) (pe_op op_add (pv 0) (pe_op op_shr (pe_op op_add (pv 1) pe_int) pe_int)))
      (pss_one (ps_ret (pe_tup (pa_cons (pv 2) (pa_cons (pe_op op_sub (pv 2) (pv 1)) pa_nil)))))), ?_⟩
    obtain ⟨KK, EE, hK0, hE, hw⟩ := cW_gen hw
    have S0 := Sep.startG sG
    unfold F_join_pair at hw
    refine ⟨_, rfl, _, rfl, _, _, rfl, rfl, _, _, rfl, rfl, (show (0 : Int) ≤ 1 by decide), _, _, rfl, rfl, ?_⟩
    have hw := cW_bnd hw
    refine ⟨_, rfl, _, rfl, _, rfl, _, _, rfl, rfl, (by show 2 ≤ sizeLine; decide), fun p1159 n1160 => ?_⟩
    generalize g1161 : upd H p1159 _ = H1162
    obtain ⟨e1163, h1164⟩ := gen_new n1160 g1161
    have h1165 : H1162 p1159 = some (.tup [V.int ((low' + ((high' + 1) / 2))), V.int (((low' + ((high' + 1) / 2)) - high'))]) := h1164
    have fr1166 := S0.free n1160
    obtain ⟨G1168, eG1169, hg1170, S1167⟩ := S0.grow n1160 e1163 h1165 fr1166
    have hw := cW_ok hw
    exact hK0 _ hw _ _ _ S1167.b0 S1167.g0 S1167.sG S1167.gn (rp_mk2 hg1170 (.int _) (.int _))

abbrev N__inverse_four : List Str := ["values", "c0", "c1", "c2", "c3", "h0", "h1", "l0", "l1", "x1", "x2", "x0", "x3"]
theorem sc__inverse_four : FnScope N__inverse_four ["values"] (defScope s__inverse_four) := ⟨rfl, rfl, rfl, by decide +kernel, rfl, by decide +kernel, by decide +kernel⟩
theorem ok__inverse_four (D : DefX K mg "_inverse_four" s__inverse_four ["values"] pats__inverse_four) (T : Txt K mg AD) (c_turn_back : CalX P w K mg base 1 "turn_back" (sp_turn_back K AD) pats_turn_back) (c_join_pair : CalX P w K mg base 1 "join_pair" (sp_join_pair K AD) pats_join_pair) : CalX P w K mg base 2 "_inverse_four" (sp__inverse_four K AD) pats__inverse_four := by
  refine D.ok sc__inverse_four (fun vs H Q E h => ?_) (fun f cdv A_ outer s H vs Q E hr h => ?_)
  · obtain ⟨G, a_values, values', rfl, _⟩ := h
    rfl
  · obtain ⟨G, a_values, values', rfl, sG, q_values, hw⟩ := h
    refine ⟨_, (C8.pss_cut (ps_asg (pv 0) (pg_seqK (K := K) (n := 4) (pgs_cons (pg_name (i := 1) sc__inverse_four.nd rfl (Or.inl rfl)) (pgs_cons (pg_name (i := 2) sc__inverse_four.nd rfl (Or.inl rfl)) (pgs_cons (pg_name (i := 3) sc__inverse_four.nd rfl (Or.inl rfl)) (pgs_cons (pg_name (i := 4) sc__inverse_four.nd rfl (Or.inl rfl)) pgs_nil))))))
      (C8.pss_cut (ps_asg (vx_callX c_turn_back pat_turn_back_0 (.head _) hr (by decide) (takes_of rfl rfl rfl rfl) rfl (pa_cons (pv 2) (pa_cons (pv 4) pa_nil)) (pk_cons pe_int (pk_cons pe_int pk_nil))) (pg_tupK (K := K) (n := 2) (pgs_cons (pg_name (i := 5) sc__inverse_four.nd rfl (Or.inl rfl)) (pgs_cons (pg_name (i := 6) sc__inverse_four.nd rfl (Or.inl rfl)) pgs_nil))))
      (C8.pss_cut (ps_asg (vx_callX c_join_pair pat_join_pair_0 (.head _) hr (by decide) (takes_of rfl rfl rfl rfl) rfl (pa_cons (pv 1) (pa_cons (pv 3) pa_nil)) pk_nil) (pg_tupK (K := K) (n := 2) (pgs_cons (pg_name (i := 7) sc__inverse_four.nd rfl (Or.inl rfl)) (pgs_cons (pg_name (i := 8) sc__inverse_four.nd rfl (Or.inl rfl)) pgs_nil))))
      (C8.pss_cut (ps_asg (vx_callX c_join_pair pat_join_pair_0 (.head _) hr (by decide) (takes_of rfl rfl rfl rfl) rfl (pa_cons (pv 8) (pa_cons (pv 6) pa_nil)) pk_nil) (pg_tupK (K := K) (n := 2) (pgs_cons (pg_name (i := 9) sc__inverse_four.nd rfl (Or.inl rfl)) (pgs_cons (pg_name (i := 10) sc__inverse_four.nd rfl (Or.inl rfl)) pgs_nil))))
      (C8.pss_cut (ps_asg (vx_callX c_join_pair pat_join_pair_0 (.head _) hr (by decide) (takes_of rfl rfl rfl rfl) rfl (pa_cons (pv 7) (pa_cons (pv 5) pa_nil)) pk_nil) (pg_tupK (K := K) (n := 2) (pgs_cons (pg_name (i := 11) sc__inverse_four.nd rfl (Or.inl rfl)) (pgs_cons (pg_name (i := 12) sc__inverse_four.nd rfl (Or.inl rfl)) pgs_nil))))
      (pss_one (ps_ret (pe_lst (pa_cons (pv 11) (pa_cons (pv 9) (pa_cons (pv 10) (pa_cons (pv 12) pa_nil)))))))))))), ?_⟩
    obtain ⟨KK, EE, hK0, hE, hw⟩ := cW_gen hw
    have S0 := Sep.startG sG
    unfold F__inverse_four at hw
    refine ⟨fun σ H' => ∃ (c0_1175 : Int) (c1_1176 : Int) (c2_1177 : Int) (c3_1178 : Int) (G' : Hp), σ = [some (V.ref a_values), some (V.int c0_1175), some (V.int c1_1176), some (V.int c2_1177), some (V.int c3_1178), none, none, none, none, none, none, none, none] ∧ Same G G' ∧ Sep [] H G G' H' [] ∧ cW (F__inverse_four_k1  c0_1175 c1_1176 c2_1177 c3_1178) KK EE, ?_, ?_⟩
    · obtain ⟨K1179, hK1180, hw⟩ := cW_push hw
      obtain ⟨g1181, hw⟩ := cW_grd hw
      refine ⟨_, rfl, _, [V.int ((itD (values') 0)), V.int ((itD (values') 1)), V.int ((itD (values') 2)), V.int ((itD (values') 3))], rfl, (SqL.cast (SqL.of (S0.bM _ _ q_values)) (unp4 g1181)), rfl, _, _, rfl, _, _, rfl, _, _, rfl, _, _, rfl, rfl, ?_⟩
      have hw := cW_bnd hw
      have hw := cW_bnd hw
      have hw := cW_bnd hw
      have hw := cW_bnd hw
      have hw := cW_ok hw
      have hw := hK1180 _ hw
      exact ⟨((itD (values') 0)), ((itD (values') 1)), ((itD (values') 2)), ((itD (values') 3)), _, rfl, (Same.refl _), S0, hw⟩
    · intro σ H1186 hw
      obtain ⟨c0_1175, c1_1176, c2_1177, c3_1178, G1188, rfl, eG1189, S1187, hw⟩ := hw
      unfold F__inverse_four_k1 at hw
      refine ⟨fun σ H' => ∃ (h0_1194 : Int) (h1_1195 : Int) (G' : Hp), σ = [some (V.ref a_values), some (V.int (c0_1175)), some (V.int (c1_1176)), some (V.int (c2_1177)), some (V.int (c3_1178)), some (V.int h0_1194), some (V.int h1_1195), none, none, none, none, none, none] ∧ Same G1188 G' ∧ Sep [] H G G' H' [] ∧ cW (F__inverse_four_k2 (c0_1175) (c2_1177) h0_1194 h1_1195) KK EE, ?_, ?_⟩
      · obtain ⟨K1196, hK1197, hw⟩ := cW_push hw
        refine ⟨_, rfl, _, rfl, rfl, rfl, G1188, _, _, _, _, rfl, S1187.sG, cW_call hw (fun v1198 hw v1201 H1199 G1202 e1200 eG1203 sG1204 hn1205 r1206 => ?_) (fun e he H2 e2 => hE e he H2 (Same.trans S1187.b0 e2))⟩
        have S1207 := S1187.step e1200 eG1203 sG1204 hn1205
        obtain ⟨a1208, v1210, v1211, rfl, h1209, r1212, r1213⟩ := rp_tup2 r1206
        obtain rfl := rp_int r1212
        obtain rfl := rp_int r1213
        refine ⟨_, _, rfl, (SqT.of (S1207.sG _ _ h1209)), rfl, _, _, rfl, _, _, rfl, rfl, ?_⟩
        have hw := cW_ok hw
        have hw := hK1197 _ hw
        exact ⟨(v1198.1), (v1198.2), _, rfl, eG1203, S1207, hw⟩
      · intro σ H1214 hw
        obtain ⟨h0_1194, h1_1195, G1216, rfl, eG1217, S1215, hw⟩ := hw
        unfold F__inverse_four_k2 at hw
        refine ⟨fun σ H' => ∃ (l0_1222 : Int) (l1_1223 : Int) (G' : Hp), σ = [some (V.ref a_values), some (V.int (c0_1175)), some (V.int (c1_1176)), some (V.int (c2_1177)), some (V.int (c3_1178)), some (V.int (h0_1194)), some (V.int (h1_1195)), some (V.int l0_1222), some (V.int l1_1223), none, none, none, none] ∧ Same G1216 G' ∧ Sep [] H G G' H' [] ∧ cW (F__inverse_four_k3 (h0_1194) (h1_1195) l0_1222 l1_1223) KK EE, ?_, ?_⟩
        · obtain ⟨K1224, hK1225, hw⟩ := cW_push hw
          refine ⟨_, rfl, _, rfl, rfl, rfl, G1216, _, _, rfl, S1215.sG, cW_call hw (fun v1226 hw v1229 H1227 G1230 e1228 eG1231 sG1232 hn1233 r1234 => ?_) (fun e he H2 e2 => hE e he H2 (Same.trans S1215.b0 e2))⟩
          have S1235 := S1215.step e1228 eG1231 sG1232 hn1233
          obtain ⟨a1236, v1238, v1239, rfl, h1237, r1240, r1241⟩ := rp_tup2 r1234
          obtain rfl := rp_int r1240
          obtain rfl := rp_int r1241
          refine ⟨_, _, rfl, (SqT.of (S1235.sG _ _ h1237)), rfl, _, _, rfl, _, _, rfl, rfl, ?_⟩
          have hw := cW_ok hw
          have hw := hK1225 _ hw
          exact ⟨(v1226.1), (v1226.2), _, rfl, eG1231, S1235, hw⟩
        · intro σ H1242 hw
          obtain ⟨l0_1222, l1_1223, G1244, rfl, eG1245, S1243, hw⟩ := hw
          unfold F__inverse_four_k3 at hw
          refine ⟨fun σ H' => ∃ (x1_1250 : Int) (x2_1251 : Int) (G' : Hp), σ = [some (V.ref a_values), some (V.int (c0_1175)), some (V.int (c1_1176)), some (V.int (c2_1177)), some (V.int (c3_1178)), some (V.int (h0_1194)), some (V.int (h1_1195)), some (V.int (l0_1222)), some (V.int (l1_1223)), some (V.int x1_1250), some (V.int x2_1251), none, none] ∧ Same G1244 G' ∧ Sep [] H G G' H' [] ∧ cW (F__inverse_four_k4 (h0_1194) (l0_1222) x1_1250 x2_1251) KK EE, ?_, ?_⟩
          · obtain ⟨K1252, hK1253, hw⟩ := cW_push hw
            refine ⟨_, rfl, _, rfl, rfl, rfl, G1244, _, _, rfl, S1243.sG, cW_call hw (fun v1254 hw v1257 H1255 G1258 e1256 eG1259 sG1260 hn1261 r1262 => ?_) (fun e he H2 e2 => hE e he H2 (Same.trans S1243.b0 e2))⟩
            have S1263 := S1243.step e1256 eG1259 sG1260 hn1261
            obtain ⟨a1264, v1266, v1267, rfl, h1265, r1268, r1269⟩ := rp_tup2 r1262
            obtain rfl := rp_int r1268
            obtain rfl := rp_int r1269
            refine ⟨_, _, rfl, (SqT.of (S1263.sG _ _ h1265)), rfl, _, _, rfl, _, _, rfl, rfl, ?_⟩
            have hw := cW_ok hw
            have hw := hK1253 _ hw
            exact ⟨(v1254.1), (v1254.2), _, rfl, eG1259, S1263, hw⟩
          · intro σ H1270 hw
            obtain ⟨x1_1250, x2_1251, G1272, rfl, eG1273, S1271, hw⟩ := hw
            unfold F__inverse_four_k4 at hw
            refine ⟨fun σ H' => ∃ (x0_1278 : Int) (x3_1279 : Int) (G' : Hp), σ = [some (V.ref a_values), some (V.int (c0_1175)), some (V.int (c1_1176)), some (V.int (c2_1177)), some (V.int (c3_1178)), some (V.int (h0_1194)), some (V.int (h1_1195)), some (V.int (l0_1222)), some (V.int (l1_1223)), some (V.int (x1_1250)), some (V.int (x2_1251)), some (V.int x0_1278), some (V.int x3_1279)] ∧ Same G1272 G' ∧ Sep [] H G G' H' [] ∧ cW (F__inverse_four_k5 (x1_1250) (x2_1251) x0_1278 x3_1279) KK EE, ?_, ?_⟩
            · obtain ⟨K1280, hK1281, hw⟩ := cW_push hw
              refine ⟨_, rfl, _, rfl, rfl, rfl, G1272, _, _, rfl, S1271.sG, cW_call hw (fun v1282 hw v1285 H1283 G1286 e1284 eG1287 sG1288 hn1289 r1290 => ?_) (fun e he H2 e2 => hE e he H2 (Same.trans S1271.b0 e2))⟩
              have S1291 := S1271.step e1284 eG1287 sG1288 hn1289
              obtain ⟨a1292, v1294, v1295, rfl, h1293, r1296, r1297⟩ := rp_tup2 r1290
              obtain rfl := rp_int r1296
              obtain rfl := rp_int r1297
              refine ⟨_, _, rfl, (SqT.of (S1291.sG _ _ h1293)), rfl, _, _, rfl, _, _, rfl, rfl, ?_⟩
              have hw := cW_ok hw
              have hw := hK1281 _ hw
              exact ⟨(v1282.1), (v1282.2), _, rfl, eG1287, S1291, hw⟩
            · intro σ H1298 hw
              obtain ⟨x0_1278, x3_1279, G1300, rfl, eG1301, S1299, hw⟩ := hw
              unfold F__inverse_four_k5 at hw
              refine ⟨_, rfl, _, rfl, _, rfl, _, rfl, (by show 4 ≤ sizeLine; decide), fun p1302 n1303 => ?_⟩
              generalize g1304 : upd H1298 p1302 _ = H1305
              obtain ⟨e1306, h1307⟩ := gen_new n1303 g1304
              have h1308 : H1305 p1302 = some (.lst (([x0_1278, x1_1250, x2_1251, x3_1279] : (List Int)).map V.int)) := h1307
              have fr1309 := S1299.free n1303
              have S1310 := S1299.new n1303 e1306 h1308 fr1309
              have hw := cW_ok hw
              exact hK0 _ hw _ _ fr1309 S1310.b0 h1308

abbrev N__inverse_eight : List Str := ["values", "e0", "f0", "e1", "f2", "e2", "f1", "e3", "f3", "d2", "d3", "d0", "d1", "h1", "h2", "h0", "h3", "lows", "pairs", "low", "high", "first", "_", "second"]
theorem sc__inverse_eight : FnScope N__inverse_eight ["values"] (defScope s__inverse_eight) := ⟨rfl, rfl, rfl, by decide +kernel, rfl, by decide +kernel, by decide +kernel⟩
theorem ok__inverse_eight (D : DefX K mg "_inverse_eight" s__inverse_eight ["values"] pats__inverse_eight) (T : Txt K mg AD) (c_join_pair : CalX P w K mg base 1 "join_pair" (sp_join_pair K AD) pats_join_pair) (c_turn_back : CalX P w K mg base 1 "turn_back" (sp_turn_back K AD) pats_turn_back) (c__inverse_four : CalX P w K mg base 2 "_inverse_four" (sp__inverse_four K AD) pats__inverse_four) : CalX P w K mg base 3 "_inverse_eight" (sp__inverse_eight K AD) pats__inverse_eight := by
  refine D.ok sc__inverse_eight (fun vs H Q E h => ?_) (fun f cdv A_ outer s H vs Q E hr h => ?_)
  · obtain ⟨G, a_values, values', rfl, _⟩ := h
    rfl
  · obtain ⟨G, a_values, values', rfl, sG, q_values, hw⟩ := h
    refine ⟨_, (C8.pss_cut (ps_asg (pv 0) (pg_seqK (K := K) (n := 8) (pgs_cons (pg_name (i := 1) sc__inverse_eight.nd rfl (Or.inl rfl)) (pgs_cons (pg_name (i := 2) sc__inverse_eight.nd rfl (Or.inl rfl)) (pgs_cons (pg_name (i := 3) sc__inverse_eight.nd rfl (Or.inl rfl)) (pgs_cons (pg_name (i := 4) sc__inverse_eight.nd rfl (Or.inl rfl)) (pgs_cons (pg_name (i := 5) sc__inverse_eight.nd rfl (Or.inl rfl)) (pgs_cons (pg_name (i := 6) sc__inverse_eight.nd rfl (Or.inl rfl)) (pgs_cons (pg_name (i := 7) sc__inverse_eight.nd rfl (Or.inl rfl)) (pgs_cons (pg_name (i := 8) sc__inverse_eight.nd rfl (Or.inl rfl)) pgs_nil))))))))))
      (C8.pss_cut (ps_asg (vx_callX c_join_pair pat_join_pair_0 (.head _) hr (by decide) (takes_of rfl rfl rfl rfl) rfl (pa_cons (pv 4) (pa_cons (pv 8) pa_nil)) pk_nil) (pg_tupK (K := K) (n := 2) (pgs_cons (pg_name (i := 9) sc__inverse_eight.nd rfl (Or.inl rfl)) (pgs_cons (pg_name (i := 10) sc__inverse_eight.nd rfl (Or.inl rfl)) pgs_nil))))
      (C8.pss_cut (ps_asg (vx_callX c_join_pair pat_join_pair_0 (.head _) hr (by decide) (takes_of rfl rfl rfl rfl) rfl (pa_cons (pv 2) (pa_cons (pv 6) pa_nil)) pk_nil) (pg_tupK (K := K) (n := 2) (pgs_cons (pg_name (i := 11) sc__inverse_eight.nd rfl (Or.inl rfl)) (pgs_cons (pg_name (i := 12) sc__inverse_eight.nd rfl (Or.inl rfl)) pgs_nil))))
      (C8.pss_cut (ps_asg (vx_callX c_turn_back pat_turn_back_0 (.head _) hr (by decide) (takes_of rfl rfl rfl rfl) rfl (pa_cons (pv 12) (pa_cons (pv 9) pa_nil)) (pk_cons pe_int (pk_cons pe_int pk_nil))) (pg_tupK (K := K) (n := 2) (pgs_cons (pg_name (i := 13) sc__inverse_eight.nd rfl (Or.inl rfl)) (pgs_cons (pg_name (i := 14) sc__inverse_eight.nd rfl (Or.inl rfl)) pgs_nil))))
      (C8.pss_cut (ps_asg (vx_callX c_turn_back pat_turn_back_0 (.head _) hr (by decide) (takes_of rfl rfl rfl rfl) rfl (pa_cons (pv 11) (pa_cons (pv 10) pa_nil)) (pk_cons pe_int (pk_cons pe_int pk_nil))) (pg_tupK (K := K) (n := 2) (pgs_cons (pg_name (i := 15) sc__inverse_eight.nd rfl (Or.inl rfl)) (pgs_cons (pg_name (i := 16) sc__inverse_eight.nd rfl (Or.inl rfl)) pgs_nil))))
      (C8.pss_cut (ps_set (i := 17) sc__inverse_eight.nd rfl (Or.inl rfl) (vx_callX c__inverse_four pat__inverse_four_0 (.head _) hr (by decide) (takes_of rfl rfl rfl rfl) rfl (pa_cons (pe_lst (pa_cons (pv 1) (pa_cons (pv 3) (pa_cons (pv 5) (pa_cons (pv 7) pa_nil))))) pa_nil) pk_nil))
      (C8.pss_cut (ps_setLc (i := 18) (y := "pairs") rfl sc__inverse_eight.nd rfl rfl (sw_true rfl rfl rfl (by decide +kernel)) (own := [("low", 19), ("high", 20)]) (g := gTup K 2 (gCons (gName 19) (gCons (gName 20) gNil))) (pi_zipK (K := K) rfl T.b_zip (pa_cons (pv 17) (pa_cons (pe_lst (pa_cons (pv 15) (pa_cons (pv 13) (pa_cons (pv 14) (pa_cons (pv 16) pa_nil))))) pa_nil))) (blkOk_by (own := [("low", 19), ("high", 20)]) (N := N__inverse_eight) (sc := defScope s__inverse_eight) (by decide +kernel)) (fun _ _ _ _ _ => (pg_tupK (K := K) (n := 2) (pgs_cons (pg_name (i := 19) sc__inverse_eight.nd rfl (Or.inl rfl)) (pgs_cons (pg_name (i := 20) sc__inverse_eight.nd rfl (Or.inl rfl)) pgs_nil)))) (fun _ _ _ _ _ => pts_nil) (fun _ _ _ _ _ => (vx_callX c_join_pair pat_join_pair_0 (.head _) hr (by decide) takes0 rfl (pa_cons (pv 19) (pa_cons (pv 20) pa_nil)) pk_nil)))
      (pss_one (ps_ret (pe_op op_cat (pe_lc (own := [("first", 21), ("_", 22)]) (g := gTup K 2 (gCons (gName 21) (gCons (gName 22) gNil))) (by rfl) sc__inverse_eight.nd (pi_listK (K := K) (pv 18)) (blkOk_by (own := [("first", 21), ("_", 22)]) (N := N__inverse_eight) (sc := defScope s__inverse_eight) (by decide +kernel)) (fun _ _ _ _ _ => (pg_tupK (K := K) (n := 2) (pgs_cons (pg_name (i := 21) sc__inverse_eight.nd rfl (Or.inl rfl)) (pgs_cons (pg_name (i := 22) sc__inverse_eight.nd rfl (Or.inl rfl)) pgs_nil)))) (fun _ _ _ _ _ => pts_nil) (fun _ _ _ _ _ => (pv 21))) (pe_lc (own := [("_", 22), ("second", 23)]) (g := gTup K 2 (gCons (gName 22) (gCons (gName 23) gNil))) (by rfl) sc__inverse_eight.nd (pi_listK (K := K) (pe_revLK (K := K) (pv 18))) (blkOk_by (own := [("_", 22), ("second", 23)]) (N := N__inverse_eight) (sc := defScope s__inverse_eight) (by decide +kernel)) (fun _ _ _ _ _ => (pg_tupK (K := K) (n := 2) (pgs_cons (pg_name (i := 22) sc__inverse_eight.nd rfl (Or.inl rfl)) (pgs_cons (pg_name (i := 23) sc__inverse_eight.nd rfl (Or.inl rfl)) pgs_nil)))) (fun _ _ _ _ _ => pts_nil) (fun _ _ _ _ _ => (pv 23))))))))))))), ?_⟩
    obtain ⟨KK, EE, hK0, hE, hw⟩ := cW_gen hw
    have S0 := Sep.startG sG
    unfold F__inverse_eight at hw
    refine ⟨fun σ H' => ∃ (e0_1319 : Int) (f0_1320 : Int) (e1_1321 : Int) (f2_1322 : Int) (e2_1323 : Int) (f1_1324 : Int) (e3_1325 : Int) (f3_1326 : Int) (G' : Hp), σ = [some (V.ref a_values), some (V.int e0_1319), some (V.int f0_1320), some (V.int e1_1321), some (V.int f2_1322), some (V.int e2_1323), some (V.int f1_1324), some (V.int e3_1325), some (V.int f3_1326), none, none, none, none, none, none, none, none, none, none, none, none, none, none, none] ∧ Same G G' ∧ Sep [] H G G' H' [] ∧ cW (F__inverse_eight_k1  e0_1319 f0_1320 e1_1321 f2_1322 e2_1323 f1_1324 e3_1325 f3_1326) KK EE, ?_, ?_⟩
    · obtain ⟨K1327, hK1328, hw⟩ := cW_push hw
      obtain ⟨g1329, hw⟩ := cW_grd hw
      refine ⟨_, rfl, _, [V.int ((itD (values') 0)), V.int ((itD (values') 1)), V.int ((itD (values') 2)), V.int ((itD (values') 3)), V.int ((itD (values') 4)), V.int ((itD (values') 5)), V.int ((itD (values') 6)), V.int ((itD (values') 7))], rfl, (SqL.cast (SqL.of (S0.bM _ _ q_values)) (unp8 g1329)), rfl, _, _, rfl, _, _, rfl, _, _, rfl, _, _, rfl, _, _, rfl, _, _, rfl, _, _, rfl, _, _, rfl, rfl, ?_⟩
      have hw := cW_bnd hw
      have hw := cW_bnd hw
      have hw := cW_bnd hw
      have hw := cW_bnd hw
      have hw := cW_bnd hw
      have hw := cW_bnd hw
      have hw := cW_bnd hw
      have hw := cW_bnd hw
      have hw := cW_ok hw
      have hw := hK1328 _ hw
      exact ⟨((itD (values') 0)), ((itD (values') 1)), ((itD (values') 2)), ((itD (values') 3)), ((itD (values') 4)), ((itD (values') 5)), ((itD (values') 6)), ((itD (values') 7)), _, rfl, (Same.refl _), S0, hw⟩
    · intro σ H1338 hw
      obtain ⟨e0_1319, f0_1320, e1_1321, f2_1322, e2_1323, f1_1324, e3_1325, f3_1326, G1340, rfl, eG1341, S1339, hw⟩ := hw
      unfold F__inverse_eight_k1 at hw
      refine ⟨fun σ H' => ∃ (d2_1350 : Int) (d3_1351 : Int) (G' : Hp), σ = [some (V.ref a_values), some (V.int (e0_1319)), some (V.int (f0_1320)), some (V.int (e1_1321)), some (V.int (f2_1322)), some (V.int (e2_1323)), some (V.int (f1_1324)), some (V.int (e3_1325)), some (V.int (f3_1326)), some (V.int d2_1350), some (V.int d3_1351), none, none, none, none, none, none, none, none, none, none, none, none, none] ∧ Same G1340 G' ∧ Sep [] H G G' H' [] ∧ cW (F__inverse_eight_k2 (e0_1319) (f0_1320) (e1_1321) (e2_1323) (f1_1324) (e3_1325) d2_1350 d3_1351) KK EE, ?_, ?_⟩
      · obtain ⟨K1352, hK1353, hw⟩ := cW_push hw
        refine ⟨_, rfl, _, rfl, rfl, rfl, G1340, _, _, rfl, S1339.sG, cW_call hw (fun v1354 hw v1357 H1355 G1358 e1356 eG1359 sG1360 hn1361 r1362 => ?_) (fun e he H2 e2 => hE e he H2 (Same.trans S1339.b0 e2))⟩
        have S1363 := S1339.step e1356 eG1359 sG1360 hn1361
        obtain ⟨a1364, v1366, v1367, rfl, h1365, r1368, r1369⟩ := rp_tup2 r1362
        obtain rfl := rp_int r1368
        obtain rfl := rp_int r1369
        refine ⟨_, _, rfl, (SqT.of (S1363.sG _ _ h1365)), rfl, _, _, rfl, _, _, rfl, rfl, ?_⟩
        have hw := cW_ok hw
        have hw := hK1353 _ hw
        exact ⟨(v1354.1), (v1354.2), _, rfl, eG1359, S1363, hw⟩
      · intro σ H1370 hw
        obtain ⟨d2_1350, d3_1351, G1372, rfl, eG1373, S1371, hw⟩ := hw
        unfold F__inverse_eight_k2 at hw
        refine ⟨fun σ H' => ∃ (d0_1382 : Int) (d1_1383 : Int) (G' : Hp), σ = [some (V.ref a_values), some (V.int (e0_1319)), some (V.int (f0_1320)), some (V.int (e1_1321)), some (V.int (f2_1322)), some (V.int (e2_1323)), some (V.int (f1_1324)), some (V.int (e3_1325)), some (V.int (f3_1326)), some (V.int (d2_1350)), some (V.int (d3_1351)), some (V.int d0_1382), some (V.int d1_1383), none, none, none, none, none, none, none, none, none, none, none] ∧ Same G1372 G' ∧ Sep [] H G G' H' [] ∧ cW (F__inverse_eight_k3 (e0_1319) (e1_1321) (e2_1323) (e3_1325) (d2_1350) (d3_1351) d0_1382 d1_1383) KK EE, ?_, ?_⟩
        · obtain ⟨K1384, hK1385, hw⟩ := cW_push hw
          refine ⟨_, rfl, _, rfl, rfl, rfl, G1372, _, _, rfl, S1371.sG, cW_call hw (fun v1386 hw v1389 H1387 G1390 e1388 eG1391 sG1392 hn1393 r1394 => ?_) (fun e he H2 e2 => hE e he H2 (Same.trans S1371.b0 e2))⟩
          have S1395 := S1371.step e1388 eG1391 sG1392 hn1393
          obtain ⟨a1396, v1398, v1399, rfl, h1397, r1400, r1401⟩ := rp_tup2 r1394
          obtain rfl := rp_int r1400
          obtain rfl := rp_int r1401
          refine ⟨_, _, rfl, (SqT.of (S1395.sG _ _ h1397)), rfl, _, _, rfl, _, _, rfl, rfl, ?_⟩
          have hw := cW_ok hw
          have hw := hK1385 _ hw
          exact ⟨(v1386.1), (v1386.2), _, rfl, eG1391, S1395, hw⟩
        · intro σ H1402 hw
          obtain ⟨d0_1382, d1_1383, G1404, rfl, eG1405, S1403, hw⟩ := hw
          unfold F__inverse_eight_k3 at hw
          refine ⟨fun σ H' => ∃ (h1_1414 : Int) (h2_1415 : Int) (G' : Hp), σ = [some (V.ref a_values), some (V.int (e0_1319)), some (V.int (f0_1320)), some (V.int (e1_1321)), some (V.int (f2_1322)), some (V.int (e2_1323)), some (V.int (f1_1324)), some (V.int (e3_1325)), some (V.int (f3_1326)), some (V.int (d2_1350)), some (V.int (d3_1351)), some (V.int (d0_1382)), some (V.int (d1_1383)), some (V.int h1_1414), some (V.int h2_1415), none, none, none, none, none, none, none, none, none] ∧ Same G1404 G' ∧ Sep [] H G G' H' [] ∧ cW (F__inverse_eight_k4 (e0_1319) (e1_1321) (e2_1323) (e3_1325) (d3_1351) (d0_1382) h1_1414 h2_1415) KK EE, ?_, ?_⟩
          · obtain ⟨K1416, hK1417, hw⟩ := cW_push hw
            refine ⟨_, rfl, _, rfl, rfl, rfl, G1404, _, _, _, _, rfl, S1403.sG, cW_call hw (fun v1418 hw v1421 H1419 G1422 e1420 eG1423 sG1424 hn1425 r1426 => ?_) (fun e he H2 e2 => hE e he H2 (Same.trans S1403.b0 e2))⟩
            have S1427 := S1403.step e1420 eG1423 sG1424 hn1425
            obtain ⟨a1428, v1430, v1431, rfl, h1429, r1432, r1433⟩ := rp_tup2 r1426
            obtain rfl := rp_int r1432
            obtain rfl := rp_int r1433
            refine ⟨_, _, rfl, (SqT.of (S1427.sG _ _ h1429)), rfl, _, _, rfl, _, _, rfl, rfl, ?_⟩
            have hw := cW_ok hw
            have hw := hK1417 _ hw
            exact ⟨(v1418.1), (v1418.2), _, rfl, eG1423, S1427, hw⟩
          · intro σ H1434 hw
            obtain ⟨h1_1414, h2_1415, G1436, rfl, eG1437, S1435, hw⟩ := hw
            unfold F__inverse_eight_k4 at hw
            refine ⟨fun σ H' => ∃ (h0_1446 : Int) (h3_1447 : Int) (G' : Hp), σ = [some (V.ref a_values), some (V.int (e0_1319)), some (V.int (f0_1320)), some (V.int (e1_1321)), some (V.int (f2_1322)), some (V.int (e2_1323)), some (V.int (f1_1324)), some (V.int (e3_1325)), some (V.int (f3_1326)), some (V.int (d2_1350)), some (V.int (d3_1351)), some (V.int (d0_1382)), some (V.int (d1_1383)), some (V.int (h1_1414)), some (V.int (h2_1415)), some (V.int h0_1446), some (V.int h3_1447), none, none, none, none, none, none, none] ∧ Same G1436 G' ∧ Sep [] H G G' H' [] ∧ cW (F__inverse_eight_k5 (e0_1319) (e1_1321) (e2_1323) (e3_1325) (h1_1414) (h2_1415) h0_1446 h3_1447) KK EE, ?_, ?_⟩
            · obtain ⟨K1448, hK1449, hw⟩ := cW_push hw
              refine ⟨_, rfl, _, rfl, rfl, rfl, G1436, _, _, _, _, rfl, S1435.sG, cW_call hw (fun v1450 hw v1453 H1451 G1454 e1452 eG1455 sG1456 hn1457 r1458 => ?_) (fun e he H2 e2 => hE e he H2 (Same.trans S1435.b0 e2))⟩
              have S1459 := S1435.step e1452 eG1455 sG1456 hn1457
              obtain ⟨a1460, v1462, v1463, rfl, h1461, r1464, r1465⟩ := rp_tup2 r1458
              obtain rfl := rp_int r1464
              obtain rfl := rp_int r1465
              refine ⟨_, _, rfl, (SqT.of (S1459.sG _ _ h1461)), rfl, _, _, rfl, _, _, rfl, rfl, ?_⟩
              have hw := cW_ok hw
              have hw := hK1449 _ hw
              exact ⟨(v1450.1), (v1450.2), _, rfl, eG1455, S1459, hw⟩
            · intro σ H1466 hw
              obtain ⟨h0_1446, h3_1447, G1468, rfl, eG1469, S1467, hw⟩ := hw
              unfold F__inverse_eight_k5 at hw
              refine ⟨fun σ H' => ∃ (p1476 : Addr) (lows_1475 : (List Int)) (G' : Hp), σ = [some (V.ref a_values), some (V.int (e0_1319)), some (V.int (f0_1320)), some (V.int (e1_1321)), some (V.int (f2_1322)), some (V.int (e2_1323)), some (V.int (f1_1324)), some (V.int (e3_1325)), some (V.int (f3_1326)), some (V.int (d2_1350)), some (V.int (d3_1351)), some (V.int (d0_1382)), some (V.int (d1_1383)), some (V.int (h1_1414)), some (V.int (h2_1415)), some (V.int (h0_1446)), some (V.int (h3_1447)), some (V.ref p1476), none, none, none, none, none, none] ∧ Same G1468 G' ∧ Sep [] H G G' H' [p1476] ∧ H' p1476 = some (.lst ((lows_1475 : (List Int)).map V.int)) ∧ H p1476 = none ∧ cW (F__inverse_eight_k6 (h1_1414) (h2_1415) (h0_1446) (h3_1447) lows_1475) KK EE, ?_, ?_⟩
              · obtain ⟨K1477, hK1478, hw⟩ := cW_push hw
                refine ⟨_, rfl, _, rfl, _, rfl, _, rfl, (by show 4 ≤ sizeLine; decide), fun p1479 n1480 => ?_⟩
                generalize g1481 : upd H1466 p1479 _ = H1482
                obtain ⟨e1483, h1484⟩ := gen_new n1480 g1481
                have h1485 : H1482 p1479 = some (.lst (([e0_1319, e1_1321, e2_1323, e3_1325] : (List Int)).map V.int)) := h1484
                have fr1486 := S1467.free n1480
                have S1487 := S1467.new n1480 e1483 h1485 fr1486
                refine ⟨rfl, rfl, G1468, _, _, rfl, S1487.sG, (hide_nil h1485), cW_call hw (fun v1488 hw p1491 H1489 n1492 e1490 h1493 => ?_) (fun e he H2 e2 => hE e he H2 (Same.trans S1487.b0 e2))⟩
                have h1494 : H1489 p1491 = some (.lst ((v1488 : (List Int)).map V.int)) := h1493
                have fr1495 := S1487.free n1492
                have S1496 := S1487.new n1492 e1490 h1494 fr1495
                have hw := cW_ok hw
                have hw := hK1478 _ hw
                exact ⟨_, (v1488), _, rfl, (Same.refl _), (S1496.sub (all_cons (.head _) all_nil)), h1494, fr1495, hw⟩
              · intro σ H1497 hw
                obtain ⟨p1476, lows_1475, G1501, rfl, eG1502, S1498, h1499, fr1500, hw⟩ := hw
                unfold F__inverse_eight_k6 at hw
                refine ⟨fun σ H' => ∃ (pairs_1504 : (List (Int × Int))) (u1505 : V) (G' : Hp), σ = [some (V.ref a_values), some (V.int (e0_1319)), some (V.int (f0_1320)), some (V.int (e1_1321)), some (V.int (f2_1322)), some (V.int (e2_1323)), some (V.int (f1_1324)), some (V.int (e3_1325)), some (V.int (f3_1326)), some (V.int (d2_1350)), some (V.int (d3_1351)), some (V.int (d0_1382)), some (V.int (d1_1383)), some (V.int (h1_1414)), some (V.int (h2_1415)), some (V.int (h0_1446)), some (V.int (h3_1447)), some (V.ref p1476), some u1505, none, none, none, none, none] ∧ Same G1501 G' ∧ Sep [] H G G' H' [p1476] ∧ H' p1476 = some (.lst ((lows_1475 : (List Int)).map V.int)) ∧ Rp G' u1505 ((encL (encT2 PyData.int PyData.int)) pairs_1504) ∧ cW (F__inverse_eight_k7  pairs_1504) KK EE, ?_, ?_⟩
                · obtain ⟨K1506, hK1507, hw⟩ := cW_push hw
                  refine ⟨_, rfl, _, rfl, _, rfl, _, rfl, _, rfl, (by show 4 ≤ sizeLine; decide), fun p1508 n1509 => ?_⟩
                  generalize g1510 : upd H1497 p1508 _ = H1511
                  obtain ⟨e1512, h1513⟩ := gen_new n1509 g1510
                  have h1514 : H1511 p1508 = some (.lst (([h0_1446, h1_1414, h2_1415, h3_1447] : (List Int)).map V.int)) := h1513
                  have fr1515 := S1498.free n1509
                  have S1516 := S1498.new n1509 e1512 h1514 fr1515
                  obtain ⟨g1517, hw⟩ := cW_grd hw
                  have h1518 := (e1512 _ _ h1499)
                  obtain ⟨K1520, hK1521, hw⟩ := cW_push hw
                  refine ⟨_, _, _, _, rfl, .inl ⟨(SqL.of h1518), (SqL.of h1514), fun D1522 n1523 => lc_zipL (K := K) (a := p1476) (b := p1508) (xs := (lows_1475 : (List Int)).map V.int) (ys := ([h0_1446, h1_1414, h2_1415, h3_1447] : (List Int)).map V.int) (by simpa using g1517) (fun i H' => ∃ (G' : Hp) (acc1525 : (List (Int × Int))) (vs1526 : List V), Same G1501 G' ∧ Sep [] H G G' H' [D1522, p1476, p1508] ∧ H' p1476 = some (.lst ((lows_1475 : (List Int)).map V.int)) ∧ H' p1508 = some (.lst (([h0_1446, h1_1414, h2_1415, h3_1447] : (List Int)).map V.int)) ∧ H' D1522 = some (.lst vs1526) ∧ RpAll G' vs1526 ((acc1525 : (List (Int × Int))).map (encT2 PyData.int PyData.int)) ∧ Same H1511 H' ∧ cW (mapA (List.drop i (List.zip (lows_1475) ([h0_1446, h1_1414, h2_1415, h3_1447]))) acc1525 (fun x => noEr (F__inverse_eight_c8  x))) K1520 EE) ?_ ?_ ?_ ?_⟩⟩
                  · generalize g1527 : upd H1511 D1522 _ = H1528
                    obtain ⟨e1529, h1530⟩ := gen_new n1523 g1527
                    have fr1531 := S1516.free n1523
                    have S1532 := S1516.new n1523 e1529 h1530 fr1531
                    have h1533 := (e1529 _ _ h1518)
                    have h1534 := (e1529 _ _ h1514)
                    exact ⟨_, [], [], Same.refl _, (S1532.sub (all_cons (.head _) (all_cons (.tail _ (.tail _ (.head _))) (all_cons (.tail _ (.head _)) all_nil)))), h1533, h1534, h1530, RpAll.nil, e1529, hw⟩
                  · intro i H1535 _ hw
                    obtain ⟨G1538, acc1540, vs1541, eG1539, S1536, h1547, h1548, h1537, d1542, eo1546, hw⟩ := hw
                    exact ⟨(SqL.of h1547), (SqL.of h1548)⟩
                  · intro i x y T_ H1549 hj hj2 n1550 hw
                    obtain ⟨G1553, acc1555, vs1556, eG1554, S1551, h1562, h1563, h1552, d1557, eo1561, hw⟩ := hw
                    obtain ⟨x1564, hx1565, rfl⟩ := map_get hj
                    obtain ⟨x1566, hx1567, rfl⟩ := map_get hj2
                    generalize g1568 : upd H1549 T_ _ = H1569
                    obtain ⟨e1570, h1571⟩ := gen_new n1550 g1568
                    have h1572 : H1569 T_ = some (.tup [V.int (x1564), V.int (x1566)]) := h1571
                    have fr1573 := S1551.free n1550
                    obtain ⟨G1575, eG1576, hg1577, S1574⟩ := S1551.grow n1550 e1570 h1572 fr1573
                    obtain ⟨z1578, hw⟩ := cW_mapA (zip_get hx1565 hx1567) hw
                    have hw := cW_noEr hw
                    have hw : cW (F__inverse_eight_c8  ((x1564, x1566))) _ (fun _ => False) := hw
                    unfold F__inverse_eight_c8 at hw
                    refine ⟨_, _, rfl, (SqT.of (S1574.sG _ _ hg1577)), rfl, _, _, rfl, _, _, rfl, rfl, rfl, ?_⟩
                    refine tyes_go ?_
                    refine ⟨_, rfl, _, rfl, rfl, rfl, G1575, _, _, rfl, S1574.sG, cW_call hw (fun v1580 hw v1583 H1581 G1584 e1582 eG1585 sG1586 hn1587 r1588 => ?_) (fun e he => he.elim)⟩
                    have S1589 := S1574.step e1582 eG1585 sG1586 hn1587
                    obtain ⟨a1590, v1592, v1593, rfl, h1591, r1594, r1595⟩ := rp_tup2 r1588
                    obtain rfl := rp_int r1594
                    obtain rfl := rp_int r1595
                    have h1596 := (e1582 _ _ (e1570 _ _ h1552))
                    refine ⟨_, h1596, (app_len (RpAll.mono eG1585 (RpAll.mono eG1576 d1557)) z1578), ?_⟩
                    generalize g1597 : upd H1581 D1522 _ = H1598
                    obtain ⟨x1599, h1600⟩ := gen_mut g1597
                    have S1601 := S1589.mut1 x1599 (.head _) h1600
                    have hw := cW_ok hw
                    have h1602 := (x1599 _ _ (e1582 _ _ (e1570 _ _ h1562)) (ne_of_none h1518 n1523))
                    have h1603 := (x1599 _ _ (e1582 _ _ (e1570 _ _ h1563)) (ne_of_none h1514 n1523))
                    exact ⟨_, (acc1555 ++ [v1580]), _, (Same.trans (Same.trans eG1554 eG1576) eG1585), S1601, h1602, h1603, h1600, (app_map (RpAll.mono eG1585 (RpAll.mono eG1576 d1557)) (RpAll.one (rp_mk2 h1591 (.int _) (.int _)))), (same_mut (Same.trans (Same.trans eo1561 e1570) e1582) x1599 n1523), hw⟩
                  intro H1604 hw
                  obtain ⟨G1607, acc1609, vs1610, eG1608, S1605, h1616, h1617, h1606, d1611, eo1615, hw⟩ := hw
                  have hw := hK1521 _ (cW_mapA0 (zip_len g1517 (by rw [List.length_map])) hw)
                  have fr1618 := S1516.free n1523
                  have hw := cW_ok hw
                  have hw := hK1507 _ hw
                  obtain ⟨G1619, eG1620, hg1621, S1622⟩ := Sep.freeze (O' := [p1476, p1508]) S1605 (.head _) h1606 fr1618 ((all_cons ⟨(.tail _ (.head _)), (ne_of_none h1518 n1523)⟩ (all_cons ⟨(.tail _ (.tail _ (.head _))), (ne_of_none h1514 n1523)⟩ all_nil)))
                  exact ⟨(acc1609), _, _, rfl, (Same.trans eG1608 eG1620), (S1622.sub (all_cons (.head _) all_nil)), h1616, (rp_mk_list hg1621 (RpAll.mono eG1620 d1611)), hw⟩
                · intro σ H1623 hw
                  obtain ⟨pairs_1504, u1505, G1627, rfl, eG1628, S1624, h1625, r1626, hw⟩ := hw
                  obtain ⟨a1629, vs1630, rfl, h1631, d1632⟩ := rp_list r1626
                  unfold F__inverse_eight_k7 at hw
                  obtain ⟨K1634, hK1635, hw⟩ := cW_push hw
                  refine ⟨_, rfl, _, rfl, ⟨_, (SqL.of (S1624.sG _ _ h1631))⟩, fun D1636 n1637 => lc_list (K := K) (a := a1629) (xs := vs1630) (fun i H' => ∃ (G' : Hp) (acc1639 : (List Int)), Same G1627 G' ∧ Sep [] H G G' H' [D1636, p1476] ∧ H' p1476 = some (.lst ((lows_1475 : (List Int)).map V.int)) ∧ H' D1636 = some (.lst ((acc1639 : (List Int)).map V.int)) ∧ Same H1623 H' ∧ cW (mapA (List.drop i (pairs_1504)) acc1639 (fun x => noEr (F__inverse_eight_c9  x))) K1634 EE) ?_ ?_ ?_ ?_⟩
                  · generalize g1641 : upd H1623 D1636 _ = H1642
                    obtain ⟨e1643, h1644⟩ := gen_new n1637 g1641
                    have fr1645 := S1624.free n1637
                    have S1646 := S1624.new n1637 e1643 h1644 fr1645
                    have h1647 := (e1643 _ _ h1625)
                    exact ⟨_, [], Same.refl _, S1646, h1647, h1644, e1643, hw⟩
                  · intro i H1648 _ hw
                    obtain ⟨G1651, acc1653, eG1652, S1649, h1660, h1650, eo1659, hw⟩ := hw
                    exact (SqL.of (S1649.sG _ _ (eG1652 _ _ h1631)))
                  · intro i x H1661 hj hw
                    obtain ⟨G1664, acc1666, eG1665, S1662, h1673, h1663, eo1672, hw⟩ := hw
                    obtain ⟨x1674, hx, r1675⟩ := RpAll.get (RpAll.mono eG1665 d1632) hj
                    obtain ⟨a1676, v1678, v1679, rfl, h1677, r1680, r1681⟩ := rp_tup2 r1675
                    obtain rfl := rp_int r1680
                    obtain rfl := rp_int r1681
                    obtain ⟨z1682, hw⟩ := cW_mapA hx hw
                    have hw := cW_noEr hw
                    have hw : cW (F__inverse_eight_c9  (x1674)) _ (fun _ => False) := hw
                    unfold F__inverse_eight_c9 at hw
                    refine ⟨_, _, rfl, (SqT.of (S1662.sG _ _ h1677)), rfl, _, _, rfl, _, _, rfl, rfl, rfl, ?_⟩
                    refine tyes_go ?_
                    refine ⟨_, rfl, _, h1663, (app_lenM z1682), ?_⟩
                    generalize g1684 : upd H1661 D1636 _ = H1685
                    obtain ⟨x1686, h1687⟩ := gen_mut g1684
                    have S1688 := S1662.mut1 x1686 (.head _) h1687
                    have hw := cW_ok hw
                    have h1689 := (x1686 _ _ h1673 (ne_of_none h1625 n1637))
                    exact ⟨_, (acc1666 ++ [x1674.1]), eG1665, S1688, h1689, (snoc_map h1687), (same_mut eo1672 x1686 n1637), hw⟩
                  intro H1690 hw
                  obtain ⟨G1693, acc1695, eG1694, S1691, h1702, h1692, eo1701, hw⟩ := hw
                  have hw := hK1635 _ (cW_mapA0 (by rw [(RpAll.mono eG1694 d1632).len, List.length_map]) hw)
                  have fr1703 := S1624.free n1637
                  refine ⟨_, rfl, _, _, rfl, (SqL.of (S1691.sG _ _ (eG1694 _ _ h1631))), fun p1704 n1705 => ?_⟩
                  generalize g1706 : upd H1690 p1704 _ = H1707
                  obtain ⟨e1708, h1709⟩ := gen_new n1705 g1706
                  have h1710 : H1707 p1704 = some (.lst ((vs1630).reverse)) := h1709
                  have fr1711 := S1691.free n1705
                  have S1712 := S1691.new n1705 e1708 h1710 fr1711
                  have d1713 : RpAll G1693 ((vs1630).reverse) (((pairs_1504).reverse : (List (Int × Int))).map (encT2 PyData.int PyData.int)) := rev_all (RpAll.mono eG1694 d1632)
                  obtain ⟨K1715, hK1716, hw⟩ := cW_push hw
                  refine ⟨_, rfl, ⟨_, (SqL.of h1710)⟩, fun D1717 n1718 => lc_list (K := K) (a := p1704) (xs := (vs1630).reverse) (fun i H' => ∃ (G' : Hp) (acc1720 : (List Int)), Same G1693 G' ∧ Sep [] H G G' H' [D1717, p1476, p1704, D1636] ∧ H' p1476 = some (.lst ((lows_1475 : (List Int)).map V.int)) ∧ H' p1704 = some (.lst ((vs1630).reverse)) ∧ H' D1636 = some (.lst ((acc1695 : (List Int)).map V.int)) ∧ H' D1717 = some (.lst ((acc1720 : (List Int)).map V.int)) ∧ Same H1707 H' ∧ cW (mapA (List.drop i ((pairs_1504).reverse)) acc1720 (fun x => noEr (F__inverse_eight_c10  x))) K1715 EE) ?_ ?_ ?_ ?_⟩
                  · generalize g1722 : upd H1707 D1717 _ = H1723
                    obtain ⟨e1724, h1725⟩ := gen_new n1718 g1722
                    have fr1726 := S1712.free n1718
                    have S1727 := S1712.new n1718 e1724 h1725 fr1726
                    have h1728 := (e1724 _ _ (e1708 _ _ h1702))
                    have h1729 := (e1724 _ _ h1710)
                    have h1730 := (e1724 _ _ (e1708 _ _ h1692))
                    exact ⟨_, [], Same.refl _, (S1727.sub (all_cons (.head _) (all_cons (.tail _ (.tail _ (.tail _ (.head _)))) (all_cons (.tail _ (.head _)) (all_cons (.tail _ (.tail _ (.head _))) all_nil))))), h1728, h1729, h1730, h1725, e1724, hw⟩
                  · intro i H1731 _ hw
                    obtain ⟨G1734, acc1736, eG1735, S1732, h1743, h1744, h1745, h1733, eo1742, hw⟩ := hw
                    exact (SqL.of h1744)
                  · intro i x H1746 hj hw
                    obtain ⟨G1749, acc1751, eG1750, S1747, h1758, h1759, h1760, h1748, eo1757, hw⟩ := hw
                    obtain ⟨x1761, hx, r1762⟩ := RpAll.get (RpAll.mono eG1750 d1713) hj
                    obtain ⟨a1763, v1765, v1766, rfl, h1764, r1767, r1768⟩ := rp_tup2 r1762
                    obtain rfl := rp_int r1767
                    obtain rfl := rp_int r1768
                    obtain ⟨z1769, hw⟩ := cW_mapA hx hw
                    have hw := cW_noEr hw
                    have hw : cW (F__inverse_eight_c10  (x1761)) _ (fun _ => False) := hw
                    unfold F__inverse_eight_c10 at hw
                    refine ⟨_, _, rfl, (SqT.of (S1747.sG _ _ h1764)), rfl, _, _, rfl, _, _, rfl, rfl, rfl, ?_⟩
                    refine tyes_go ?_
                    refine ⟨_, rfl, _, h1748, (app_lenM z1769), ?_⟩
                    generalize g1771 : upd H1746 D1717 _ = H1772
                    obtain ⟨x1773, h1774⟩ := gen_mut g1771
                    have S1775 := S1747.mut1 x1773 (.head _) h1774
                    have hw := cW_ok hw
                    have h1776 := (x1773 _ _ h1758 (ne_of_none (e1708 _ _ h1702) n1718))
                    have h1777 := (x1773 _ _ h1759 (ne_of_none h1710 n1718))
                    have h1778 := (x1773 _ _ h1760 (ne_of_none (e1708 _ _ h1692) n1718))
                    exact ⟨_, (acc1751 ++ [x1761.2]), eG1750, S1775, h1776, h1777, h1778, (snoc_map h1774), (same_mut eo1757 x1773 n1718), hw⟩
                  intro H1779 hw
                  obtain ⟨G1782, acc1784, eG1783, S1780, h1791, h1792, h1793, h1781, eo1790, hw⟩ := hw
                  have hw := hK1716 _ (cW_mapA0 (by rw [(RpAll.mono eG1783 d1713).len, List.length_map]) hw)
                  have fr1794 := S1712.free n1718
                  obtain ⟨g1795, hw⟩ := cW_grd hw
                  refine ⟨_, _, _, _, rfl, rfl, h1793, h1781, (cat_lenM g1795), fun p1796 n1797 => ?_⟩
                  generalize g1798 : upd H1779 p1796 _ = H1799
                  obtain ⟨e1800, h1801⟩ := gen_new n1797 g1798
                  have h1802 : H1799 p1796 = some (.lst (((acc1695) ++ (acc1784) : (List Int)).map V.int)) := cat_map h1801
                  have fr1803 := S1780.free n1797
                  have S1804 := S1780.new n1797 e1800 h1802 fr1803
                  have hw := cW_ok hw
                  exact hK0 _ hw _ _ fr1803 S1804.b0 h1802

abbrev N_inverse : List Str := ["values"]
theorem sc_inverse : FnScope N_inverse ["values"] (defScope s_inverse) := ⟨rfl, rfl, rfl, by decide +kernel, rfl, by decide +kernel, by decide +kernel⟩
theorem ok_inverse (D : DefX K mg "inverse" s_inverse ["values"] pats_inverse) (T : Txt K mg AD) (c_check_size : CalX P w K mg base 1 "check_size" (sp_check_size K AD) pats_check_size) (c__inverse_four : CalX P w K mg base 2 "_inverse_four" (sp__inverse_four K AD) pats__inverse_four) (c__inverse_eight : CalX P w K mg base 3 "_inverse_eight" (sp__inverse_eight K AD) pats__inverse_eight) : CalX P w K mg base 4 "inverse" (sp_inverse K AD) pats_inverse := by
  refine D.ok sc_inverse (fun vs H Q E h => ?_) (fun f cdv A_ outer s H vs Q E hr h => ?_)
  · obtain ⟨G, a_values, values', rfl, _⟩ := h
    rfl
  · obtain ⟨G, a_values, values', rfl, sG, q_values, hw⟩ := h
    refine ⟨_, (pss_cons (ps_expr (vx_callX c_check_size pat_check_size_0 (.head _) hr (by decide) (takes_of rfl rfl rfl rfl) rfl (pa_cons (pe_callB (call_lenLiK (K := K)) (by rfl) T.b_len (by decide +kernel) (pa_cons (pv 0) pa_nil)) pa_nil) pk_nil))
      (pss_one (ps_ret (pe_ifExp (pt_cmp (pc_eqI (pe_callB (call_lenLiK (K := K)) (by rfl) T.b_len (by decide +kernel) (pa_cons (pv 0) pa_nil)) pe_int)) (vx_callX c__inverse_four pat__inverse_four_0 (.head _) hr (by decide) (takes_of rfl rfl rfl rfl) rfl (pa_cons (pv 0) pa_nil) pk_nil) (vx_callX c__inverse_eight pat__inverse_eight_0 (.head _) hr (by decide) (takes_of rfl rfl rfl rfl) rfl (pa_cons (pv 0) pa_nil) pk_nil))))), ?_⟩
    obtain ⟨KK, EE, hK0, hE, hw⟩ := cW_gen hw
    have S0 := Sep.startG sG
    unfold F_inverse at hw
    refine ⟨_, rfl, _, _, rfl, (SqL.of (S0.bM _ _ q_values)), rfl, rfl, G, _, rfl, S0.sG, cW_call hw (fun v1805 hw => ?_) (fun e he => hE e he _ S0.b0)⟩
    refine ⟨_, rfl, _, _, rfl, (SqL.of (S0.bM _ _ q_values)), _, _, rfl, rfl, _, rfl, ?_⟩
    refine iteD (fun c1806 => ?_) (fun c1806 => ?_)
    · have hw := cW_pos c1806 hw
      refine ⟨_, rfl, rfl, rfl, G, _, _, rfl, S0.sG, (hide_nil (S0.bM _ _ q_values)), cW_call hw (fun v1807 hw p1810 H1808 n1811 e1809 h1812 => ?_) (fun e he H2 e2 => hE e he H2 (Same.trans S0.b0 e2))⟩
      have h1813 : H1808 p1810 = some (.lst ((v1807 : (List Int)).map V.int)) := h1812
      have fr1814 := S0.free n1811
      have S1815 := S0.new n1811 e1809 h1813 fr1814
      have hw := cW_ok hw
      exact hK0 _ hw _ _ fr1814 S1815.b0 h1813
    · have hw := cW_neg c1806 hw
      refine ⟨_, rfl, rfl, rfl, G, _, _, rfl, S0.sG, (hide_nil (S0.bM _ _ q_values)), cW_call hw (fun v1816 hw p1819 H1817 n1820 e1818 h1821 => ?_) (fun e he H2 e2 => hE e he H2 (Same.trans S0.b0 e2))⟩
      have h1822 : H1817 p1819 = some (.lst ((v1816 : (List Int)).map V.int)) := h1821
      have fr1823 := S0.free n1820
      have S1824 := S0.new n1820 e1818 h1822 fr1823
      have hw := cW_ok hw
      exact hK0 _ hw _ _ fr1823 S1824.b0 h1822

abbrev N_inverse_square : List Str := ["square", "columns", "column", "row"]
theorem sc_inverse_square : FnScope N_inverse_square ["square"] (defScope s_inverse_square) := ⟨rfl, rfl, rfl, by decide +kernel, rfl, by decide +kernel, by decide +kernel⟩
theorem ok_inverse_square (D : DefX K mg "inverse_square" s_inverse_square ["square"] pats_inverse_square) (T : Txt K mg AD) (c_check_square : CalX P w K mg base 2 "check_square" (sp_check_square K AD) pats_check_square) (c_transposed : CalX P w K mg base 1 "transposed" (sp_transposed K AD) pats_transposed) (c_inverse : CalX P w K mg base 4 "inverse" (sp_inverse K AD) pats_inverse) : CalX P w K mg base 5 "inverse_square" (sp_inverse_square K AD) pats_inverse_square := by
  refine D.ok sc_inverse_square (fun vs H Q E h => ?_) (fun f cdv A_ outer s H vs Q E hr h => ?_)
  · obtain ⟨G, v_square, square', rfl, _⟩ := h
    rfl
  · obtain ⟨G, v_square, square', rfl, sG, r_square, hw⟩ := h
    refine ⟨_, (pss_cons (ps_expr (vx_callX c_check_square pat_check_square_0 (.head _) hr (by decide) (takes_of rfl rfl rfl rfl) rfl (pa_cons (pv 0) pa_nil) pk_nil))
      (pss_cons (ps_setLc (i := 1) (y := "columns") rfl sc_inverse_square.nd rfl rfl (sw_true rfl rfl rfl (by decide +kernel)) (own := [("column", 2)]) (g := gName 2) (pi_listK (K := K) (vx_callX c_transposed pat_transposed_0 (.head _) hr (by decide) (takes_of rfl rfl rfl rfl) rfl (pa_cons (pv 0) pa_nil) pk_nil)) (blkOk_by (own := [("column", 2)]) (N := N_inverse_square) (sc := defScope s_inverse_square) (by decide +kernel)) (fun _ _ _ _ _ => (pg_name (i := 2) sc_inverse_square.nd rfl (Or.inl rfl))) (fun _ _ _ _ _ => pts_nil) (fun _ _ _ _ _ => (vx_callX c_inverse pat_inverse_0 (.head _) hr (by decide) takes0 rfl (pa_cons (pv 2) pa_nil) pk_nil)))
      (pss_one (ps_ret (pe_lc (own := [("row", 3)]) (g := gName 3) (by rfl) sc_inverse_square.nd (pi_listK (K := K) (vx_callX c_transposed pat_transposed_0 (.head _) hr (by decide) (takes_of rfl rfl rfl rfl) rfl (pa_cons (pv 1) pa_nil) pk_nil)) (blkOk_by (own := [("row", 3)]) (N := N_inverse_square) (sc := defScope s_inverse_square) (by decide +kernel)) (fun _ _ _ _ _ => (pg_name (i := 3) sc_inverse_square.nd rfl (Or.inl rfl))) (fun _ _ _ _ _ => pts_nil) (fun _ _ _ _ _ => (vx_callX c_inverse pat_inverse_0 (.head _) hr (by decide) takes0 rfl (pa_cons (pv 3) pa_nil) pk_nil))))))), ?_⟩
    obtain ⟨KK, EE, hK0, hE, hw⟩ := cW_gen hw
    have S0 := Sep.startG sG
    unfold F_inverse_square at hw
    obtain ⟨a1825, vs1826, rfl, h1827, d1828⟩ := rp_list r_square
    refine ⟨_, rfl, rfl, rfl, G, _, _, rfl, S0.sG, (Rp.hide_nil (rp_mk_list (S0.bM _ _ h1827) (RpAll.mono S0.bM d1828))), cW_call hw (fun v1829 hw H1830 e1831 => ?_) (fun e he H2 e2 => hE e he H2 (Same.trans S0.b0 e2))⟩
    have S1832 := S0.same e1831
    refine ⟨_, rfl, rfl, rfl, G, _, _, rfl, S1832.sG, (Rp.hide_nil (rp_mk_list (S1832.bM _ _ h1827) (RpAll.mono S1832.bM d1828))), cW_call hw (fun v1833 hw H1834 a1836 vs1837 L1838 G1839 n1840 nb1841 nd1842 e1835 eG1843 sG1844 hn1845 ga1846 gL1847 h1848 w1849 => ?_) (fun e he H2 e2 => hE e he H2 (Same.trans S1832.b0 e2))⟩
    have fr1850 := S1832.free n1840
    have S1851 : Sep _ _ _ _ H1834 (a1836 :: (L1838 ++ [])) := Sep.steptree S1832 e1835 eG1843 sG1844 hn1845 (a1836 :: L1838) (all_cons ⟨n1840, ga1846, some_ne h1848⟩ (fun b hb => ⟨nb1841 b hb, gL1847 b hb, OwAll.there w1849 b hb⟩))
    obtain ⟨K1853, hK1854, hw⟩ := cW_push hw
    refine ⟨_, rfl, ⟨_, (SqL.of h1848)⟩, fun D1855 n1856 => lc_list (K := K) (a := a1836) (xs := vs1837) (fun i H' => ∃ (G' : Hp) (acc1858 : (List (List Int))) (vs1859 : List V) (L1857 : List Addr), Same G1839 G' ∧ Sep [] H G G' H' (D1855 :: (L1857 ++ (a1836 :: (L1838 ++ [])))) ∧ H' a1836 = some (.lst (vs1837)) ∧ H' D1855 = some (.lst vs1859) ∧ OwAll G' H' L1838 (vs1837) ((v1833 : (List (List Int))).map (oL oI)) ∧ OwAll G' H' L1857 vs1859 ((acc1858 : (List (List Int))).map (oL oI)) ∧ (∀ b ∈ L1857, H1834 b = none) ∧ (∀ b ∈ L1857, b ≠ D1855) ∧ Same H1834 H' ∧ cW (mapA (List.drop i (v1833)) acc1858 (fun x => noEr (F_inverse_square_c1  x))) K1853 EE) ?_ ?_ ?_ ?_⟩
    · generalize g1860 : upd H1834 D1855 _ = H1861
      obtain ⟨e1862, h1863⟩ := gen_new n1856 g1860
      have fr1864 := S1851.free n1856
      have S1865 := S1851.new n1856 e1862 h1863 fr1864
      have h1866 := (e1862 _ _ h1848)
      have w1867 : OwAll G1839 H1861 L1838 (vs1837) ((v1833 : (List (List Int))).map (oL oI)) := (OwAll.mono (Same.refl _) (keeps_same e1862) w1849)
      exact ⟨_, [], [], [], Same.refl _, (S1865.sub (all_cons (.head _) (all_app (L := []) all_nil (all_cons (.tail _ (.head _)) (all_app ((fun b hb => (.tail _ (.tail _ (List.mem_append_left _ hb)))) : ∀ b ∈ L1838, b ∈ (D1855 :: (a1836 :: (L1838 ++ [])))) all_nil))))), h1866, h1863, w1867, OwAll.nil, all_nil, all_nil, e1862, hw⟩
    · intro i H1868 _ hw
      obtain ⟨G1871, acc1873, vs1874, L1876, eG1872, S1869, h1880, h1870, w1881, d1875, nb1877, nd1878, eo1879, hw⟩ := hw
      exact (SqL.of h1880)
    · intro i x H1882 hj hw
      obtain ⟨G1885, acc1887, vs1888, L1890, eG1886, S1883, h1894, h1884, w1895, d1889, nb1891, nd1892, eo1893, hw⟩ := hw
      obtain ⟨x1896, L1897, hx, w1898, hs1899⟩ := OwAll.turn w1895 hj
      obtain ⟨b1900, rfl, rfl, h1901⟩ := Ow.toInts w1898
      have hv1902 := hj
      have hx1903 := hx
      obtain ⟨z1904, hw⟩ := cW_mapA hx hw
      have hw := cW_noEr hw
      have hw : cW (F_inverse_square_c1  (x1896)) _ (fun _ => False) := hw
      unfold F_inverse_square_c1 at hw
      refine ⟨rfl, ?_⟩
      refine tyes_go ?_
      refine ⟨_, rfl, rfl, rfl, G1885, _, _, rfl, S1883.sG, (hide_nil h1901), cW_call hw (fun v1906 hw p1909 H1907 n1910 e1908 h1911 => ?_) (fun e he => he.elim)⟩
      have h1912 : H1907 p1909 = some (.lst ((v1906 : (List Int)).map V.int)) := h1911
      have fr1913 := S1883.free n1910
      have S1914 := S1883.new n1910 e1908 h1912 fr1913
      have w1915 : OwAll G1885 H1907 L1890 (vs1888) ((acc1887 : (List (List Int))).map (oL oI)) := (OwAll.mono (Same.refl _) (keeps_same e1908) d1889)
      have h1916 := (e1908 _ _ h1884)
      refine ⟨_, h1916, (app_len (OwAll.rpA w1915 (encO_L encO_I) S1914.sG) z1904), ?_⟩
      generalize g1917 : upd H1907 D1855 _ = H1918
      obtain ⟨x1919, h1920⟩ := gen_mut g1917
      have S1921 := S1914.mut1 x1919 (.tail _ (.head _)) h1920
      have hw := cW_ok hw
      have h1922 := (x1919 _ _ (e1908 _ _ h1894) (ne_of_none h1848 n1856))
      have w1923 : OwAll G1885 H1918 L1838 (vs1837) ((v1833 : (List (List Int))).map (oL oI)) := (OwAll.mono (Same.refl _) (keeps_mut x1919 ((there_ne (fun b_ hb_ => (S1851.ow b_ (((fun b hb => (.tail _ (List.mem_append_left _ hb))) : ∀ b ∈ L1838, b ∈ (a1836 :: (L1838 ++ []))) b_ hb_)).2.1) n1856) : ∀ b ∈ L1838, b ≠ D1855)) (OwAll.mono (Same.refl _) (keeps_same e1908) w1895))
      exact ⟨_, (acc1887 ++ [v1906]), _, (L1890 ++ (p1909 :: ([] : List Addr))), eG1886, (S1921.sub (all_cons (.tail _ (.head _)) (all_app (all_app ((fun b hb => (.tail _ (.tail _ (List.mem_append_left _ hb)))) : ∀ b ∈ L1890, b ∈ (p1909 :: (D1855 :: (L1890 ++ (a1836 :: (L1838 ++ [])))))) (all_cons (.head _) all_nil)) (all_cons (.tail _ (.tail _ (List.mem_append_right _ (.head _)))) (all_app ((fun b hb => (.tail _ (.tail _ (List.mem_append_right _ (.tail _ (List.mem_append_left _ hb)))))) : ∀ b ∈ L1838, b ∈ (p1909 :: (D1855 :: (L1890 ++ (a1836 :: (L1838 ++ [])))))) all_nil))))), h1922, h1920, w1923, (OwAll.mono (Same.refl _) (keeps_mut x1919 ((all_app nd1892 (all_cons (ne_of_none h1884 n1910).symm all_nil)) : ∀ b ∈ (L1890 ++ (p1909 :: ([] : List Addr))), b ≠ D1855)) (OwAll.snocM w1915 (Ow.ints h1912) ((fun b hb => (nm_cons ((there_ne (fun b_ hb_ => (S1883.ow b_ (((fun b hb => (.tail _ (List.mem_append_left _ hb))) : ∀ b ∈ L1890, b ∈ (D1855 :: (L1890 ++ (a1836 :: (L1838 ++ []))))) b_ hb_)).2.1) n1910) b hb) nm_nil)) : ∀ b ∈ L1890, b ∉ (p1909 :: ([] : List Addr))))), ((all_app nb1891 (all_cons (none_of_same eo1893 n1910) all_nil)) : ∀ b ∈ (L1890 ++ (p1909 :: ([] : List Addr))), H1834 b = none), ((all_app nd1892 (all_cons (ne_of_none h1884 n1910).symm all_nil)) : ∀ b ∈ (L1890 ++ (p1909 :: ([] : List Addr))), b ≠ D1855), (same_mut (Same.trans eo1893 e1908) x1919 n1856), hw⟩
    intro H1924 hw
    obtain ⟨G1927, acc1929, vs1930, L1932, eG1928, S1925, h1936, h1926, w1937, d1931, nb1933, nd1934, eo1935, hw⟩ := hw
    have hw := hK1854 _ (cW_mapA0 (by rw [(OwAll.rpA w1937 (encO_L encO_I) S1925.sG).len, List.length_map]) hw)
    have fr1938 := S1851.free n1856
    refine ⟨_, rfl, rfl, rfl, G1927, _, _, rfl, S1925.sG, (Rp.hide_nil (rp_mk_list h1926 (OwAll.rpA d1931 (encO_L encO_I) S1925.sG))), cW_call hw (fun v1939 hw H1940 a1942 vs1943 L1944 G1945 n1946 nb1947 nd1948 e1941 eG1949 sG1950 hn1951 ga1952 gL1953 h1954 w1955 => ?_) (fun e he H2 e2 => hE e he H2 (Same.trans S1925.b0 e2))⟩
    have fr1956 := S1925.free n1946
    have S1957 : Sep _ _ _ _ H1940 (a1942 :: (L1944 ++ (D1855 :: (L1932 ++ (a1836 :: (L1838 ++ [])))))) := Sep.steptree S1925 e1941 eG1949 sG1950 hn1951 (a1942 :: L1944) (all_cons ⟨n1946, ga1952, some_ne h1954⟩ (fun b hb => ⟨nb1947 b hb, gL1953 b hb, OwAll.there w1955 b hb⟩))
    obtain ⟨K1959, hK1960, hw⟩ := cW_push hw
    refine ⟨_, rfl, ⟨_, (SqL.of h1954)⟩, fun D1961 n1962 => lc_list (K := K) (a := a1942) (xs := vs1943) (fun i H' => ∃ (G' : Hp) (acc1964 : (List (List Int))) (vs1965 : List V) (L1963 : List Addr), Same G1945 G' ∧ Sep [] H G G' H' (D1961 :: (L1963 ++ (D1855 :: (a1942 :: (L1932 ++ (L1944 ++ [])))))) ∧ H' D1855 = some (.lst (vs1930)) ∧ H' a1942 = some (.lst (vs1943)) ∧ H' D1961 = some (.lst vs1965) ∧ OwAll G' H' L1932 (vs1930) ((acc1929 : (List (List Int))).map (oL oI)) ∧ OwAll G' H' L1944 (vs1943) ((v1939 : (List (List Int))).map (oL oI)) ∧ OwAll G' H' L1963 vs1965 ((acc1964 : (List (List Int))).map (oL oI)) ∧ (∀ b ∈ L1963, H1940 b = none) ∧ (∀ b ∈ L1963, b ≠ D1961) ∧ Same H1940 H' ∧ cW (mapA (List.drop i (v1939)) acc1964 (fun x => noEr (F_inverse_square_c2  x))) K1959 EE) ?_ ?_ ?_ ?_⟩
    · generalize g1966 : upd H1940 D1961 _ = H1967
      obtain ⟨e1968, h1969⟩ := gen_new n1962 g1966
      have fr1970 := S1957.free n1962
      have S1971 := S1957.new n1962 e1968 h1969 fr1970
      have h1972 := (e1968 _ _ (e1941 _ _ h1926))
      have h1973 := (e1968 _ _ h1954)
      have w1974 : OwAll G1945 H1967 L1932 (vs1930) ((acc1929 : (List (List Int))).map (oL oI)) := (OwAll.mono eG1949 keeps_refl (OwAll.mono (Same.refl _) (keeps_same e1968) (OwAll.mono (Same.refl _) (keeps_same e1941) d1931)))
      have w1975 : OwAll G1945 H1967 L1944 (vs1943) ((v1939 : (List (List Int))).map (oL oI)) := (OwAll.mono (Same.refl _) (keeps_same e1968) w1955)
      exact ⟨_, [], [], [], Same.refl _, (S1971.sub (all_cons (.head _) (all_app (L := []) all_nil (all_cons (.tail _ (.tail _ (List.mem_append_right _ (.head _)))) (all_cons (.tail _ (.head _)) (all_app ((fun b hb => (.tail _ (.tail _ (List.mem_append_right _ (.tail _ (List.mem_append_left _ hb)))))) : ∀ b ∈ L1932, b ∈ (D1961 :: (a1942 :: (L1944 ++ (D1855 :: (L1932 ++ (a1836 :: (L1838 ++ [])))))))) (all_app ((fun b hb => (.tail _ (.tail _ (List.mem_append_left _ hb)))) : ∀ b ∈ L1944, b ∈ (D1961 :: (a1942 :: (L1944 ++ (D1855 :: (L1932 ++ (a1836 :: (L1838 ++ [])))))))) all_nil))))))), h1972, h1973, h1969, w1974, w1975, OwAll.nil, all_nil, all_nil, e1968, hw⟩
    · intro i H1976 _ hw
      obtain ⟨G1979, acc1981, vs1982, L1984, eG1980, S1977, h1988, h1989, h1978, w1990, w1991, d1983, nb1985, nd1986, eo1987, hw⟩ := hw
      exact (SqL.of h1989)
    · intro i x H1992 hj hw
      obtain ⟨G1995, acc1997, vs1998, L2000, eG1996, S1993, h2004, h2005, h1994, w2006, w2007, d1999, nb2001, nd2002, eo2003, hw⟩ := hw
      obtain ⟨x2008, L2009, hx, w2010, hs2011⟩ := OwAll.turn w2007 hj
      obtain ⟨b2012, rfl, rfl, h2013⟩ := Ow.toInts w2010
      have hv2014 := hj
      have hx2015 := hx
      obtain ⟨z2016, hw⟩ := cW_mapA hx hw
      have hw := cW_noEr hw
      have hw : cW (F_inverse_square_c2  (x2008)) _ (fun _ => False) := hw
      unfold F_inverse_square_c2 at hw
      refine ⟨rfl, ?_⟩
      refine tyes_go ?_
      refine ⟨_, rfl, rfl, rfl, G1995, _, _, rfl, S1993.sG, (hide_nil h2013), cW_call hw (fun v2018 hw p2021 H2019 n2022 e2020 h2023 => ?_) (fun e he => he.elim)⟩
      have h2024 : H2019 p2021 = some (.lst ((v2018 : (List Int)).map V.int)) := h2023
      have fr2025 := S1993.free n2022
      have S2026 := S1993.new n2022 e2020 h2024 fr2025
      have w2027 : OwAll G1995 H2019 L2000 (vs1998) ((acc1997 : (List (List Int))).map (oL oI)) := (OwAll.mono (Same.refl _) (keeps_same e2020) d1999)
      have h2028 := (e2020 _ _ h1994)
      refine ⟨_, h2028, (app_len (OwAll.rpA w2027 (encO_L encO_I) S2026.sG) z2016), ?_⟩
      generalize g2029 : upd H2019 D1961 _ = H2030
      obtain ⟨x2031, h2032⟩ := gen_mut g2029
      have S2033 := S2026.mut1 x2031 (.tail _ (.head _)) h2032
      have hw := cW_ok hw
      have h2034 := (x2031 _ _ (e2020 _ _ h2004) (ne_of_none (e1941 _ _ h1926) n1962))
      have h2035 := (x2031 _ _ (e2020 _ _ h2005) (ne_of_none h1954 n1962))
      have w2036 : OwAll G1995 H2030 L1932 (vs1930) ((acc1929 : (List (List Int))).map (oL oI)) := (OwAll.mono (Same.refl _) (keeps_mut x2031 ((there_ne (fun b_ hb_ => (S1957.ow b_ (((fun b hb => (.tail _ (List.mem_append_right _ (.tail _ (List.mem_append_left _ hb))))) : ∀ b ∈ L1932, b ∈ (a1942 :: (L1944 ++ (D1855 :: (L1932 ++ (a1836 :: (L1838 ++ []))))))) b_ hb_)).2.1) n1962) : ∀ b ∈ L1932, b ≠ D1961)) (OwAll.mono (Same.refl _) (keeps_same e2020) w2006))
      have w2037 : OwAll G1995 H2030 L1944 (vs1943) ((v1939 : (List (List Int))).map (oL oI)) := (OwAll.mono (Same.refl _) (keeps_mut x2031 ((there_ne (fun b_ hb_ => (S1957.ow b_ (((fun b hb => (.tail _ (List.mem_append_left _ hb))) : ∀ b ∈ L1944, b ∈ (a1942 :: (L1944 ++ (D1855 :: (L1932 ++ (a1836 :: (L1838 ++ []))))))) b_ hb_)).2.1) n1962) : ∀ b ∈ L1944, b ≠ D1961)) (OwAll.mono (Same.refl _) (keeps_same e2020) w2007))
      exact ⟨_, (acc1997 ++ [v2018]), _, (L2000 ++ (p2021 :: ([] : List Addr))), eG1996, (S2033.sub (all_cons (.tail _ (.head _)) (all_app (all_app ((fun b hb => (.tail _ (.tail _ (List.mem_append_left _ hb)))) : ∀ b ∈ L2000, b ∈ (p2021 :: (D1961 :: (L2000 ++ (D1855 :: (a1942 :: (L1932 ++ (L1944 ++ [])))))))) (all_cons (.head _) all_nil)) (all_cons (.tail _ (.tail _ (List.mem_append_right _ (.head _)))) (all_cons (.tail _ (.tail _ (List.mem_append_right _ (.tail _ (.head _))))) (all_app ((fun b hb => (.tail _ (.tail _ (List.mem_append_right _ (.tail _ (.tail _ (List.mem_append_left _ hb))))))) : ∀ b ∈ L1932, b ∈ (p2021 :: (D1961 :: (L2000 ++ (D1855 :: (a1942 :: (L1932 ++ (L1944 ++ [])))))))) (all_app ((fun b hb => (.tail _ (.tail _ (List.mem_append_right _ (.tail _ (.tail _ (List.mem_append_right _ (List.mem_append_left _ hb)))))))) : ∀ b ∈ L1944, b ∈ (p2021 :: (D1961 :: (L2000 ++ (D1855 :: (a1942 :: (L1932 ++ (L1944 ++ [])))))))) all_nil))))))), h2034, h2035, h2032, w2036, w2037, (OwAll.mono (Same.refl _) (keeps_mut x2031 ((all_app nd2002 (all_cons (ne_of_none h1994 n2022).symm all_nil)) : ∀ b ∈ (L2000 ++ (p2021 :: ([] : List Addr))), b ≠ D1961)) (OwAll.snocM w2027 (Ow.ints h2024) ((fun b hb => (nm_cons ((there_ne (fun b_ hb_ => (S1993.ow b_ (((fun b hb => (.tail _ (List.mem_append_left _ hb))) : ∀ b ∈ L2000, b ∈ (D1961 :: (L2000 ++ (D1855 :: (a1942 :: (L1932 ++ (L1944 ++ []))))))) b_ hb_)).2.1) n2022) b hb) nm_nil)) : ∀ b ∈ L2000, b ∉ (p2021 :: ([] : List Addr))))), ((all_app nb2001 (all_cons (none_of_same eo2003 n2022) all_nil)) : ∀ b ∈ (L2000 ++ (p2021 :: ([] : List Addr))), H1940 b = none), ((all_app nd2002 (all_cons (ne_of_none h1994 n2022).symm all_nil)) : ∀ b ∈ (L2000 ++ (p2021 :: ([] : List Addr))), b ≠ D1961), (same_mut (Same.trans eo2003 e2020) x2031 n1962), hw⟩
    intro H2038 hw
    obtain ⟨G2041, acc2043, vs2044, L2046, eG2042, S2039, h2050, h2051, h2040, w2052, w2053, d2045, nb2047, nd2048, eo2049, hw⟩ := hw
    have hw := hK1960 _ (cW_mapA0 (by rw [(OwAll.rpA w2053 (encO_L encO_I) S2039.sG).len, List.length_map]) hw)
    have fr2054 := S1957.free n1962
    have hw := cW_ok hw
    exact hK0 _ hw _ _ _ _ _ fr2054 ((fun b hb => Sep.h0 S2039 (((fun b hb => (.tail _ (List.mem_append_left _ hb))) : ∀ b ∈ L2046, b ∈ (D1961 :: (L2046 ++ (D1855 :: (a1942 :: (L1932 ++ (L1944 ++ []))))))) b hb) nm_nil) : ∀ b ∈ L2046, H b = none) (nd2048 : ∀ b ∈ L2046, b ≠ D1961) S2039.b0 S2039.g0 S2039.sG S2039.gn (S2039.ow _ (.head _)).1 ((fun b hb => (S2039.ow b (((fun b hb => (.tail _ (List.mem_append_left _ hb))) : ∀ b ∈ L2046, b ∈ (D1961 :: (L2046 ++ (D1855 :: (a1942 :: (L1932 ++ (L1944 ++ []))))))) b hb)).1) : ∀ b ∈ L2046, G2041 b = none) h2040 d2045

abbrev N__law_cell : List Str := ["script", "k"]
theorem sc__law_cell : FnScope N__law_cell ["script", "k"] (defScope s__law_cell) := ⟨rfl, rfl, rfl, by decide +kernel, rfl, by decide +kernel, by decide +kernel⟩
theorem ok__law_cell (D : DefX K mg "_law_cell" s__law_cell ["script", "k"] pats__law_cell) (T : Txt K mg AD)  : CalX P w K mg base 1 "_law_cell" (sp__law_cell K AD) pats__law_cell := by
  refine D.ok sc__law_cell (fun vs H Q E h => ?_) (fun f cdv A_ outer s H vs Q E hr h => ?_)
  · obtain ⟨G, a_script, script', k', rfl, _⟩ := h
    rfl
  · obtain ⟨G, a_script, script', k', rfl, sG, q_script, hw⟩ := h
    refine ⟨_, (pss_cons (ps_if (pt_cmp (pc_lt (pv 1) (pe_callB (call_lenLiK (K := K)) (by rfl) T.b_len (by decide +kernel) (pa_cons (pv 0) pa_nil)))) (pss_one (ps_ret (pe_callB call_abs (by rfl) T.b_abs (by decide +kernel) (pa_cons (pe_callTy call_int1 (by rfl) T.b_int (by decide +kernel) (pa_cons (pe_ix (ix_listK (K := K)) (pv 0) (pv 1) (fun _ _ => rfl)) pa_nil)) pa_nil)))) pss_nil)
      (pss_one (ps_ret pe_int))), ?_⟩
    obtain ⟨KK, EE, hK0, hE, hw⟩ := cW_gen hw
    have S0 := Sep.startG sG
    unfold F__law_cell at hw
    refine ⟨_, rfl, _, rfl, _, _, rfl, (S0.b0.seq q_script), _, _, rfl, rfl, _, rfl, ?_⟩
    refine iteD (fun c2055 => ?_) (fun c2055 => ?_)
    · have hw := cW_pos c2055 hw
      obtain ⟨g2056, hw⟩ := cW_grd hw
      refine ⟨_, rfl, _, rfl, _, _, _, _, rfl, rfl, (S0.b0.seq q_script), (atI_map g2056), .inl ⟨_, rfl, ?_⟩⟩
      refine ⟨_, rfl, ?_⟩
      have hw := cW_ok hw
      exact hK0 _ hw
    · have hw := cW_neg c2055 hw
      have hw := cW_ok hw
      exact hK0 _ hw

abbrev N__law_is_square : List Str := ["actual", "size", "row", "item"]
theorem sc__law_is_square : FnScope N__law_is_square ["actual", "size"] (defScope s__law_is_square) := ⟨rfl, rfl, rfl, by decide +kernel, rfl, by decide +kernel, by decide +kernel⟩
theorem ok__law_is_square (D : DefX K mg "_law_is_square" s__law_is_square ["actual", "size"] pats__law_is_square) (T : Txt K mg AD)  : CalX P w K mg base 1 "_law_is_square" (sp__law_is_square K AD) pats__law_is_square := by
  refine D.ok sc__law_is_square (fun vs H Q E h => ?_) (fun f cdv A_ outer s H vs Q E hr h => ?_)
  · obtain ⟨G, v_actual, actual', size', rfl, _⟩ := h
    rfl
  · obtain ⟨G, v_actual, actual', size', rfl, sG, r_actual, hw⟩ := h
    refine ⟨_, (pss_cons (ps_if (PW.pt (pw_or (pt_not (pt_val (pe_callB call_isi (by rfl) T.b_isinstance (by decide +kernel) (pa_cons (pv 0) (pa_cons (pe_bltn (v := V.ty "list") (u := Value.type "list") (by rfl) T.b_list (by decide +kernel) rfl) pa_nil))))) (pw_or1 (pt_cmp (pc_neI (pe_callB (call_lenLK (K := K)) (by rfl) T.b_len (by decide +kernel) (pa_cons (pv 0) pa_nil)) (pv 1)))))) (pss_one (ps_ret pe_bl)) pss_nil)
      (pss_cons (ps_for (passes_of rfl) rfl (pi_listK (K := K) (pv 0)) (pg_name (i := 2) sc__law_is_square.nd rfl (Or.inl rfl)) (pss_cons (ps_if (PW.pt (pw_or (pt_not (pt_val (pe_callB call_isi (by rfl) T.b_isinstance (by decide +kernel) (pa_cons (pv 2) (pa_cons (pe_bltn (v := V.ty "list") (u := Value.type "list") (by rfl) T.b_list (by decide +kernel) rfl) pa_nil))))) (pw_or1 (pt_cmp (pc_neI (pe_callB (call_lenLiK (K := K)) (by rfl) T.b_len (by decide +kernel) (pa_cons (pv 2) pa_nil)) (pv 1)))))) (pss_one (ps_ret pe_bl)) pss_nil)
      (pss_one (ps_for (passes_of rfl) rfl (pi_listK (K := K) (pv 2)) (pg_name (i := 3) sc__law_is_square.nd rfl (Or.inl rfl)) (pss_one (ps_if (PW.pt (pw_or (pt_not (pt_val (pe_callB call_isi (by rfl) T.b_isinstance (by decide +kernel) (pa_cons (pv 3) (pa_cons (pe_bltn (v := V.ty "int") (u := Value.type "int") (by rfl) T.b_int (by decide +kernel) rfl) pa_nil))))) (pw_or1 (pt_val (pe_callB call_isi (by rfl) T.b_isinstance (by decide +kernel) (pa_cons (pv 3) (pa_cons (pe_bltn (v := V.ty "bool") (u := Value.type "bool") (by rfl) T.b_bool (by decide +kernel) rfl) pa_nil))))))) (pss_one (ps_ret pe_bl)) pss_nil))))))
      (pss_one (ps_ret pe_bl)))), ?_⟩
    obtain ⟨KK, EE, hK0, hE, hw⟩ := cW_gen hw
    have S0 := Sep.startG sG
    unfold F__law_is_square at hw
    obtain ⟨a2057, vs2058, rfl, h2059, d2060⟩ := rp_list r_actual
    refine ⟨_, rfl, _, _, _, _, _, rfl, (.ty _), (.base (.lst (S0.bM _ _ h2059))), rfl, _, rfl, ?_⟩
    refine iteF ?_
    refine ⟨_, rfl, _, _, _, rfl, (SqL.of (S0.bM _ _ h2059)), (by rw [d2060.len, List.length_map]), _, rfl, _, _, rfl, rfl, _, rfl, ?_⟩
    refine iteN (fun c2061 => ?_) (fun c2061 => ?_)
    · have hw := cW_neg c2061 hw
      have hw := cW_ok hw
      exact hK0 _ hw _ S0.b0
    · have hw := cW_pos c2061 hw
      obtain ⟨K2063, hK2064, hw⟩ := cW_push hw
      refine ⟨_, rfl, _, rfl, ⟨_, (SqL.of (S0.bM _ _ h2059))⟩, for_list (K := K) (a := a2057) (xs := vs2058) (fun i σ H' => ∃ (u2065 : Option V) (u2066 : Option V) (G' : Hp), σ = [some (V.ref a2057), some (V.int (size')), u2065, u2066] ∧ Same G G' ∧ Sep [] H G G' H' [] ∧ cW (forR (List.drop i (actual')) () (fun s x => F__law_is_square_b1 (size')  x)) K2063 EE) ?_ ?_ ?_ ?_⟩
      · exact ⟨_, _, _, rfl, (Same.refl _), S0, hw⟩
      · intro i σ H2067 _ hw
        obtain ⟨u2065, u2066, G2069, rfl, eG2070, S2068, hw⟩ := hw
        exact (SqL.of (S2068.bM _ _ h2059))
      · intro i x σ H2071 hj hw
        obtain ⟨u2065, u2066, G2073, rfl, eG2074, S2072, hw⟩ := hw
        obtain ⟨x2075, hx, r2076⟩ := RpAll.get d2060 hj
        obtain ⟨a2077, rfl, h2078⟩ := rp_ints r2076
        have hw := cW_forR hx hw
        have hw : cW (F__law_is_square_b1 (size')  (x2075)) _ EE := hw
        unfold F__law_is_square_b1 at hw
        obtain ⟨K2079, hK2080, hw⟩ := cW_name hw
        refine ⟨_, rfl, _, _, _, _, _, rfl, (.ty _), (.base (.lst (S2072.bM _ _ h2078))), rfl, _, rfl, ?_⟩
        refine iteF ?_
        refine ⟨_, rfl, _, _, rfl, (SqL.of (S2072.bM _ _ h2078)), _, rfl, _, _, rfl, rfl, _, rfl, ?_⟩
        refine iteN (fun c2082 => ?_) (fun c2082 => ?_)
        · have hw := cW_neg c2082 hw
          have hw := cW_ok hw
          have hw := hK2080 (.rt _) hw
          have hw := hK2064 (.rt _) hw
          have hw := cW_ok hw
          exact hK0 _ hw _ S2072.b0
        · have hw := cW_pos c2082 hw
          obtain ⟨K2083, hK2084, hw⟩ := cW_push hw
          refine ⟨_, rfl, _, rfl, ⟨_, (SqL.of (S2072.bM _ _ h2078))⟩, for_list (K := K) (a := a2077) (xs := (x2075 : List Int).map V.int) (fun i σ H' => ∃ (u2085 : Option V) (G' : Hp), σ = [some (V.ref a2057), some (V.int (size')), some (V.ref a2077), u2085] ∧ Same G2073 G' ∧ Sep [] H G G' H' [] ∧ cW (forR (List.drop i (x2075)) () (fun s x => F__law_is_square_b2   x)) K2083 EE) ?_ ?_ ?_ ?_⟩
          · exact ⟨_, _, rfl, (Same.refl _), S2072, hw⟩
          · intro i σ H2086 _ hw
            obtain ⟨u2085, G2088, rfl, eG2089, S2087, hw⟩ := hw
            exact (SqL.of (S2087.bM _ _ h2078))
          · intro i x σ H2090 hj hw
            obtain ⟨u2085, G2092, rfl, eG2093, S2091, hw⟩ := hw
            obtain ⟨x2094, hx, rfl⟩ := map_get hj
            have hw := cW_forR hx hw
            have hw : cW (F__law_is_square_b2   (x2094)) _ EE := hw
            unfold F__law_is_square_b2 at hw
            obtain ⟨K2095, hK2096, hw⟩ := cW_name hw
            refine ⟨_, rfl, _, _, _, _, _, rfl, (.ty _), (.base (.int _)), rfl, _, rfl, ?_⟩
            refine iteF ?_
            refine ⟨_, rfl, _, _, _, _, _, rfl, (.ty _), (.base (.int _)), rfl, _, rfl, ?_⟩
            refine iteF ?_
            have hw := cW_ok hw
            have hw := hK2096 _ hw
            exact ⟨_, _, rfl, eG2093, S2091, hw⟩
          · intro σ H2098 hw
            obtain ⟨u2085, G2100, rfl, eG2101, S2099, hw⟩ := hw
            have hw := cW_aftgo (hK2084 _ (cW_forR0 (by rw [List.length_map]) hw))
            have hw : cW (F__law_is_square_r2  ) _ EE := hw
            unfold F__law_is_square_r2 at hw
            have hw := cW_ok hw
            have hw := hK2080 _ hw
            exact ⟨_, _, _, rfl, (Same.trans eG2074 eG2101), S2099, hw⟩
      · intro σ H2102 hw
        obtain ⟨u2065, u2066, G2104, rfl, eG2105, S2103, hw⟩ := hw
        have hw := cW_aftgo (hK2064 _ (cW_forR0 (by rw [d2060.len, List.length_map]) hw))
        have hw : cW (F__law_is_square_r1  ) _ EE := hw
        unfold F__law_is_square_r1 at hw
        have hw := cW_ok hw
        exact hK0 _ hw _ S2103.b0

abbrev N__law_passes : List Str := ["rows", "size", "middle", "out", "i", "column", "j", "row"]
theorem sc__law_passes : FnScope N__law_passes ["rows", "size"] (defScope s__law_passes) := ⟨rfl, rfl, rfl, by decide +kernel, rfl, by decide +kernel, by decide +kernel⟩
theorem ok__law_passes (D : DefX K mg "_law_passes" s__law_passes ["rows", "size"] pats__law_passes) (T : Txt K mg AD) (c_forward : CalX P w K mg base 4 "forward" (sp_forward K AD) pats_forward) : CalX P w K mg base 5 "_law_passes" (sp__law_passes K AD) pats__law_passes := by
  refine D.ok sc__law_passes (fun vs H Q E h => ?_) (fun f cdv A_ outer s H vs Q E hr h => ?_)
  · obtain ⟨G, v_rows, rows', size', rfl, _⟩ := h
    rfl
  · obtain ⟨G, v_rows, rows', size', rfl, sG, r_rows, hw⟩ := h
    refine ⟨_, (pss_cons (ps_set (i := 2) sc__law_passes.nd rfl (Or.inr rfl) (pe_lc (own := [("row", 7)]) (g := gName 7) (by rfl) sc__law_passes.nd (pi_listK (K := K) (pv 0)) (blkOk_by (own := [("row", 7)]) (N := N__law_passes) (sc := defScope s__law_passes) (by decide +kernel)) (fun _ _ _ _ _ => (pg_name (i := 7) sc__law_passes.nd rfl (Or.inl rfl))) (fun _ _ _ _ _ => pts_nil) (fun _ _ _ _ _ => (vx_callX c_forward pat_forward_0 (.head _) hr (by decide) takes0 rfl (pa_cons (pe_callTy (call_listLK (K := K)) (by rfl) T.b_list (by decide +kernel) (pa_cons (pv 7) pa_nil)) pa_nil) pk_nil))))
      (pss_cons (ps_setLc (i := 3) (y := "out") rfl sc__law_passes.nd rfl rfl (sw_true rfl rfl rfl (by decide +kernel)) (own := [("j", 6)]) (g := gName 6) (pi_range1 rfl T.b_range (pa_cons (pv 1) pa_nil)) (blkOk_by (own := [("j", 6)]) (N := N__law_passes) (sc := defScope s__law_passes) (by decide +kernel)) (fun _ _ _ _ _ => (pg_name (i := 6) sc__law_passes.nd rfl (Or.inl rfl))) (fun _ _ _ _ _ => pts_nil) (fun _ _ _ _ _ => (pe_op op_rep (pe_lst (pa_cons pe_int pa_nil)) (pv 1))))
      (pss_cons (ps_for (passes_of rfl) rfl (pi_range1 rfl T.b_range (pa_cons (pv 1) pa_nil)) (pg_name (i := 4) sc__law_passes.nd rfl (Or.inr rfl)) (pss_cons (ps_set (i := 5) sc__law_passes.nd rfl (Or.inl rfl) (vx_callX c_forward pat_forward_0 (.head _) hr (by decide) (takes_of rfl rfl rfl rfl) rfl (pa_cons (pe_lc (own := [("j", 6)]) (g := gName 6) (by rfl) sc__law_passes.nd (pi_range1 rfl T.b_range (pa_cons (pv 1) pa_nil)) (blkOk_by (own := [("j", 6)]) (N := N__law_passes) (sc := defScope s__law_passes) (by decide +kernel)) (fun _ _ _ _ _ => (pg_name (i := 6) sc__law_passes.nd rfl (Or.inl rfl))) (fun _ _ _ _ _ => pts_nil) (fun _ _ _ _ _ => (pe_ix (ix_listK (K := K)) (pe_ix (ix_listK (K := K)) (pv 2) (pv 6) (fun _ _ => rfl)) (pv 4) (fun _ _ => rfl)))) pa_nil) pk_nil))
      (pss_one (ps_for (passes_of rfl) rfl (pi_range1 rfl T.b_range (pa_cons (pv 1) pa_nil)) (pg_name (i := 6) sc__law_passes.nd rfl (Or.inl rfl)) (pss_one (ps_asg (pe_ix (ix_listK (K := K)) (pv 5) (pv 6) (fun _ _ => rfl)) (pg_sub (pe_ix (ix_listK (K := K)) (pv 3) (pv 6) (fun _ _ => rfl)) (pv 4) set_list)))))))
      (pss_one (ps_ret (pv 3)))))), ?_⟩
    obtain ⟨KK, EE, hK0, hE, hw⟩ := cW_gen hw
    have S0 := Sep.startG sG
    unfold F__law_passes at hw
    obtain ⟨a2106, vs2107, rfl, h2108, d2109⟩ := rp_list r_rows
    obtain ⟨K2111, hK2112, hw⟩ := cW_push hw
    refine ⟨_, rfl, _, rfl, ⟨_, (SqL.of (S0.bM _ _ h2108))⟩, fun D2113 n2114 => lc_list (K := K) (a := a2106) (xs := vs2107) (fun i H' => ∃ (G' : Hp) (acc2116 : (List (List Int))) (vs2117 : List V) (L2115 : List Addr), Same G G' ∧ Sep [] H G G' H' (D2113 :: (L2115 ++ [])) ∧ H' D2113 = some (.lst vs2117) ∧ OwAll G' H' L2115 vs2117 ((acc2116 : (List (List Int))).map (oL oI)) ∧ (∀ b ∈ L2115, H b = none) ∧ (∀ b ∈ L2115, b ≠ D2113) ∧ Same H H' ∧ cW (mapA (List.drop i (rows')) acc2116 (fun x => noEr (F__law_passes_c1  x))) K2111 EE) ?_ ?_ ?_ ?_⟩
    · generalize g2118 : upd H D2113 _ = H2119
      obtain ⟨e2120, h2121⟩ := gen_new n2114 g2118
      have fr2122 := S0.free n2114
      have S2123 := S0.new n2114 e2120 h2121 fr2122
      exact ⟨_, [], [], [], Same.refl _, (S2123.sub (all_cons (.head _) (all_app (L := []) all_nil all_nil))), h2121, OwAll.nil, all_nil, all_nil, e2120, hw⟩
    · intro i H2124 _ hw
      obtain ⟨G2127, acc2129, vs2130, L2132, eG2128, S2125, h2126, d2131, nb2133, nd2134, eo2135, hw⟩ := hw
      exact (SqL.of (S2125.bM _ _ h2108))
    · intro i x H2136 hj hw
      obtain ⟨G2139, acc2141, vs2142, L2144, eG2140, S2137, h2138, d2143, nb2145, nd2146, eo2147, hw⟩ := hw
      obtain ⟨x2148, hx, r2149⟩ := RpAll.get d2109 hj
      obtain ⟨a2150, rfl, h2151⟩ := rp_ints r2149
      obtain ⟨z2152, hw⟩ := cW_mapA hx hw
      have hw := cW_noEr hw
      have hw : cW (F__law_passes_c1  (x2148)) _ (fun _ => False) := hw
      unfold F__law_passes_c1 at hw
      refine ⟨rfl, ?_⟩
      refine tyes_go ?_
      refine ⟨_, rfl, _, _, rfl, (SqL.of (S2137.bM _ _ h2151)), fun p2154 n2155 => ?_⟩
      generalize g2156 : upd H2136 p2154 _ = H2157
      obtain ⟨e2158, h2159⟩ := gen_new n2155 g2156
      have h2160 : H2157 p2154 = some (.lst ((x2148 : (List Int)).map V.int)) := h2159
      have fr2161 := S2137.free n2155
      have S2162 := S2137.new n2155 e2158 h2160 fr2161
      refine ⟨rfl, rfl, G2139, _, _, rfl, S2162.sG, (hide_nil h2160), cW_call hw (fun v2163 hw p2166 H2164 n2167 e2165 h2168 => ?_) (fun e he => he.elim)⟩
      have h2169 : H2164 p2166 = some (.lst ((v2163 : (List Int)).map V.int)) := h2168
      have fr2170 := S2162.free n2167
      have S2171 := S2162.new n2167 e2165 h2169 fr2170
      have w2172 : OwAll G2139 H2164 L2144 (vs2142) ((acc2141 : (List (List Int))).map (oL oI)) := (OwAll.mono (Same.refl _) (keeps_same e2165) (OwAll.mono (Same.refl _) (keeps_same e2158) d2143))
      have h2173 := (e2165 _ _ (e2158 _ _ h2138))
      refine ⟨_, h2173, (app_len (OwAll.rpA w2172 (encO_L encO_I) S2171.sG) z2152), ?_⟩
      generalize g2174 : upd H2164 D2113 _ = H2175
      obtain ⟨x2176, h2177⟩ := gen_mut g2174
      have S2178 := S2171.mut1 x2176 (.tail _ (.tail _ (.head _))) h2177
      have hw := cW_ok hw
      exact ⟨_, (acc2141 ++ [v2163]), _, (L2144 ++ (p2166 :: ([] : List Addr))), eG2140, (S2178.sub (all_cons (.tail _ (.tail _ (.head _))) (all_app (all_app ((fun b hb => (.tail _ (.tail _ (.tail _ (List.mem_append_left _ hb))))) : ∀ b ∈ L2144, b ∈ (p2166 :: (p2154 :: (D2113 :: (L2144 ++ []))))) (all_cons (.head _) all_nil)) all_nil))), h2177, (OwAll.mono (Same.refl _) (keeps_mut x2176 ((all_app nd2146 (all_cons (ne_of_none (e2158 _ _ h2138) n2167).symm all_nil)) : ∀ b ∈ (L2144 ++ (p2166 :: ([] : List Addr))), b ≠ D2113)) (OwAll.snocM w2172 (Ow.ints h2169) ((fun b hb => (nm_cons ((there_ne (fun b_ hb_ => (S2162.ow b_ (((fun b hb => (.tail _ (.tail _ (List.mem_append_left _ hb)))) : ∀ b ∈ L2144, b ∈ (p2154 :: (D2113 :: (L2144 ++ [])))) b_ hb_)).2.1) n2167) b hb) nm_nil)) : ∀ b ∈ L2144, b ∉ (p2166 :: ([] : List Addr))))), ((all_app nb2145 (all_cons (none_of_same (Same.trans eo2147 e2158) n2167) all_nil)) : ∀ b ∈ (L2144 ++ (p2166 :: ([] : List Addr))), H b = none), ((all_app nd2146 (all_cons (ne_of_none (e2158 _ _ h2138) n2167).symm all_nil)) : ∀ b ∈ (L2144 ++ (p2166 :: ([] : List Addr))), b ≠ D2113), (same_mut (Same.trans (Same.trans eo2147 e2158) e2165) x2176 n2114), hw⟩
    intro H2179 hw
    obtain ⟨G2182, acc2184, vs2185, L2187, eG2183, S2180, h2181, d2186, nb2188, nd2189, eo2190, hw⟩ := hw
    have hw := hK2112 _ (cW_mapA0 (by rw [d2109.len, List.length_map]) hw)
    have fr2191 := S0.free n2114
    obtain ⟨g2192, hw⟩ := cW_grd hw
    obtain ⟨K2195, hK2196, hw⟩ := cW_push hw
    refine ⟨_, rfl, _, rfl, g2192.1, g2192.2, fun D2197 n2198 => lc_range (lo := 0) (n := Int.toNat (size')) (fun i H' => ∃ (G' : Hp) (acc2200 : (List (List Int))) (vs2201 : List V) (L2199 : List Addr), Same G2182 G' ∧ Sep [] H G G' H' (D2197 :: (L2199 ++ (D2113 :: (L2187 ++ [])))) ∧ H' D2113 = some (.lst (vs2185)) ∧ H' D2197 = some (.lst vs2201) ∧ OwAll G' H' L2187 (vs2185) ((acc2184 : (List (List Int))).map (oL oI)) ∧ OwAll G' H' L2199 vs2201 ((acc2200 : (List (List Int))).map (oL oI)) ∧ (∀ b ∈ L2199, H2179 b = none) ∧ (∀ b ∈ L2199, b ≠ D2197) ∧ Same H2179 H' ∧ cW (mapA (List.drop i (rng (0) (Int.toNat (size')))) acc2200 (fun x => noEr (F__law_passes_c2 (size') x))) K2195 EE) ?_ ?_ ?_⟩
    · generalize g2202 : upd H2179 D2197 _ = H2203
      obtain ⟨e2204, h2205⟩ := gen_new n2198 g2202
      have fr2206 := S2180.free n2198
      have S2207 := S2180.new n2198 e2204 h2205 fr2206
      have h2208 := (e2204 _ _ h2181)
      have w2209 : OwAll G2182 H2203 L2187 (vs2185) ((acc2184 : (List (List Int))).map (oL oI)) := (OwAll.mono (Same.refl _) (keeps_same e2204) d2186)
      exact ⟨_, [], [], [], Same.refl _, (S2207.sub (all_cons (.head _) (all_app (L := []) all_nil (all_cons (.tail _ (.head _)) (all_app ((fun b hb => (.tail _ (.tail _ (List.mem_append_left _ hb)))) : ∀ b ∈ L2187, b ∈ (D2197 :: (D2113 :: (L2187 ++ [])))) all_nil))))), h2208, h2205, w2209, OwAll.nil, all_nil, all_nil, e2204, hw⟩
    · intro i H2210 hi hw
      obtain ⟨G2213, acc2215, vs2216, L2218, eG2214, S2211, h2222, h2212, w2223, d2217, nb2219, nd2220, eo2221, hw⟩ := hw
      obtain ⟨z2224, hw⟩ := cW_mapA (rng_get hi) hw
      generalize (0 + (i : Int)) = x2225 at hw ⊢
      have hw := cW_noEr hw
      have hw : cW (F__law_passes_c2 (size') (x2225)) _ (fun _ => False) := hw
      unfold F__law_passes_c2 at hw
      refine ⟨rfl, ?_⟩
      refine tyes_go ?_
      refine ⟨(by show 1 ≤ sizeLine; decide), fun p2227 n2228 => ?_⟩
      generalize g2229 : upd H2210 p2227 _ = H2230
      obtain ⟨e2231, h2232⟩ := gen_new n2228 g2229
      have h2233 : H2230 p2227 = some (.lst (([0] : (List Int)).map V.int)) := h2232
      have fr2234 := S2211.free n2228
      have S2235 := S2211.new n2228 e2231 h2233 fr2234
      obtain ⟨g2236, hw⟩ := cW_grd hw
      refine ⟨_, rfl, _, _, _, rfl, rfl, h2233, g2236.1, g2236.2.1, (rep_lenM g2236.2.2), fun p2237 n2238 => ?_⟩
      generalize g2239 : upd H2230 p2237 _ = H2240
      obtain ⟨e2241, h2242⟩ := gen_new n2238 g2239
      have h2243 : H2240 p2237 = some (.lst ((repL ([0]) (size') : (List Int)).map V.int)) := rep_map h2242
      have fr2244 := S2235.free n2238
      have S2245 := S2235.new n2238 e2241 h2243 fr2244
      have w2246 : OwAll G2213 H2240 L2218 (vs2216) ((acc2215 : (List (List Int))).map (oL oI)) := (OwAll.mono (Same.refl _) (keeps_same e2241) (OwAll.mono (Same.refl _) (keeps_same e2231) d2217))
      have h2247 := (e2241 _ _ (e2231 _ _ h2212))
      refine ⟨_, h2247, (app_len (OwAll.rpA w2246 (encO_L encO_I) S2245.sG) z2224), ?_⟩
      generalize g2248 : upd H2240 D2197 _ = H2249
      obtain ⟨x2250, h2251⟩ := gen_mut g2248
      have S2252 := S2245.mut1 x2250 (.tail _ (.tail _ (.head _))) h2251
      have hw := cW_ok hw
      have h2253 := (x2250 _ _ (e2241 _ _ (e2231 _ _ h2222)) (ne_of_none h2181 n2198))
      have w2254 : OwAll G2213 H2249 L2187 (vs2185) ((acc2184 : (List (List Int))).map (oL oI)) := (OwAll.mono (Same.refl _) (keeps_mut x2250 ((there_ne (fun b_ hb_ => (S2180.ow b_ (((fun b hb => (.tail _ (List.mem_append_left _ hb))) : ∀ b ∈ L2187, b ∈ (D2113 :: (L2187 ++ []))) b_ hb_)).2.1) n2198) : ∀ b ∈ L2187, b ≠ D2197)) (OwAll.mono (Same.refl _) (keeps_same e2241) (OwAll.mono (Same.refl _) (keeps_same e2231) w2223)))
      exact ⟨_, (acc2215 ++ [repL ([0]) (size')]), _, (L2218 ++ (p2237 :: ([] : List Addr))), eG2214, (S2252.sub (all_cons (.tail _ (.tail _ (.head _))) (all_app (all_app ((fun b hb => (.tail _ (.tail _ (.tail _ (List.mem_append_left _ hb))))) : ∀ b ∈ L2218, b ∈ (p2237 :: (p2227 :: (D2197 :: (L2218 ++ (D2113 :: (L2187 ++ []))))))) (all_cons (.head _) all_nil)) (all_cons (.tail _ (.tail _ (.tail _ (List.mem_append_right _ (.head _))))) (all_app ((fun b hb => (.tail _ (.tail _ (.tail _ (List.mem_append_right _ (.tail _ (List.mem_append_left _ hb))))))) : ∀ b ∈ L2187, b ∈ (p2237 :: (p2227 :: (D2197 :: (L2218 ++ (D2113 :: (L2187 ++ []))))))) all_nil))))), h2253, h2251, w2254, (OwAll.mono (Same.refl _) (keeps_mut x2250 ((all_app nd2220 (all_cons (ne_of_none (e2231 _ _ h2212) n2238).symm all_nil)) : ∀ b ∈ (L2218 ++ (p2237 :: ([] : List Addr))), b ≠ D2197)) (OwAll.snocM w2246 (Ow.ints h2243) ((fun b hb => (nm_cons ((there_ne (fun b_ hb_ => (S2235.ow b_ (((fun b hb => (.tail _ (.tail _ (List.mem_append_left _ hb)))) : ∀ b ∈ L2218, b ∈ (p2227 :: (D2197 :: (L2218 ++ (D2113 :: (L2187 ++ [])))))) b_ hb_)).2.1) n2238) b hb) nm_nil)) : ∀ b ∈ L2218, b ∉ (p2237 :: ([] : List Addr))))), ((all_app nb2219 (all_cons (none_of_same (Same.trans eo2221 e2231) n2238) all_nil)) : ∀ b ∈ (L2218 ++ (p2237 :: ([] : List Addr))), H2179 b = none), ((all_app nd2220 (all_cons (ne_of_none (e2231 _ _ h2212) n2238).symm all_nil)) : ∀ b ∈ (L2218 ++ (p2237 :: ([] : List Addr))), b ≠ D2197), (same_mut (Same.trans (Same.trans eo2221 e2231) e2241) x2250 n2198), hw⟩
    intro H2255 hw
    obtain ⟨G2258, acc2260, vs2261, L2263, eG2259, S2256, h2267, h2257, w2268, d2262, nb2264, nd2265, eo2266, hw⟩ := hw
    have hw := hK2196 _ (cW_mapA0 (rng_len _ _).symm hw)
    have fr2269 := S2180.free n2198
    obtain ⟨g2270, hw⟩ := cW_grd hw
    obtain ⟨K2273, hK2274, hw⟩ := cW_push hw
    refine ⟨_, rfl, _, rfl, g2270.1, g2270.2, for_range (lo := 0) (n := Int.toNat (size')) (fun i σ H' => ∃ (out_2275 : (List (List Int))) (vs2276 : List V) (L2277 : List Addr) (u2278 : Option V) (u2279 : Option V) (u2280 : Option V) (G' : Hp), σ = [some (V.ref a2106), some (V.int (size')), some (V.ref D2113), some (V.ref D2197), u2278, u2279, u2280, none] ∧ Same G2258 G' ∧ Sep [] H G G' H' (D2113 :: (D2197 :: (L2187 ++ (L2277 ++ [])))) ∧ H' D2113 = some (.lst (vs2185)) ∧ H' D2197 = some (.lst (vs2276)) ∧ (∀ b ∈ L2277, b ≠ D2113) ∧ (∀ b ∈ L2277, b ≠ D2197) ∧ (∀ b ∈ L2277, b ∉ L2187) ∧ OwAll G' H' L2187 (vs2185) ((acc2184 : (List (List Int))).map (oL oI)) ∧ OwAll G' H' L2277 (vs2276) ((out_2275 : (List (List Int))).map (oL oI)) ∧ cW (forS (List.drop i (rng (0) (Int.toNat (size')))) out_2275 (fun s x => F__law_passes_b3 (size') (acc2184) s x)) K2273 EE) ?_ ?_ ?_⟩
    · exact ⟨(acc2260), (vs2261), L2263, _, _, _, _, rfl, (Same.refl _), (S2256.sub (all_cons (.tail _ (List.mem_append_right _ (.head _))) (all_cons (.head _) (all_app ((fun b hb => (.tail _ (List.mem_append_right _ (.tail _ (List.mem_append_left _ hb))))) : ∀ b ∈ L2187, b ∈ (D2197 :: (L2263 ++ (D2113 :: (L2187 ++ []))))) (all_app ((fun b hb => (.tail _ (List.mem_append_left _ hb))) : ∀ b ∈ L2263, b ∈ (D2197 :: (L2263 ++ (D2113 :: (L2187 ++ []))))) all_nil))))), h2267, h2257, (new_ne2 nb2264 (S2180.ow _ (.head _)).2.1), nd2265, (new_nl nb2264 (fun b_ hb_ => (S2180.ow b_ (((fun b hb => (.tail _ (List.mem_append_left _ hb))) : ∀ b ∈ L2187, b ∈ (D2113 :: (L2187 ++ []))) b_ hb_)).2.1)), w2268, d2262, hw⟩
    · intro i σ H2281 hi hw
      obtain ⟨out_2275, vs2276, L2277, u2278, u2279, u2280, G2290, rfl, eG2291, S2282, h2283, h2284, ne2285, ne2286, ne2287, w2288, w2289, hw⟩ := hw
      have hw := cW_forS (rng_get hi) hw
      generalize (0 + (i : Int)) = x2292 at hw ⊢
      have hw : cW (F__law_passes_b3 (size') (acc2184) (out_2275) (x2292)) _ EE := hw
      unfold F__law_passes_b3 at hw
      obtain ⟨K2294, hK2295, hw⟩ := cW_name hw
      obtain ⟨g2297, hw⟩ := cW_grd hw
      obtain ⟨K2301, hK2302, hw⟩ := cW_push hw
      refine ⟨_, rfl, _, rfl, g2297.1, g2297.2, fun D2303 n2304 => lc_range (lo := 0) (n := Int.toNat (size')) (fun i H' => ∃ (G' : Hp) (acc2306 : (List Int)), Same G2290 G' ∧ Sep [] H G G' H' (D2303 :: (D2113 :: (D2197 :: (L2187 ++ (L2277 ++ []))))) ∧ H' D2113 = some (.lst (vs2185)) ∧ H' D2197 = some (.lst (vs2276)) ∧ H' D2303 = some (.lst ((acc2306 : (List Int)).map V.int)) ∧ OwAll G' H' L2187 (vs2185) ((acc2184 : (List (List Int))).map (oL oI)) ∧ OwAll G' H' L2277 (vs2276) ((out_2275 : (List (List Int))).map (oL oI)) ∧ Same H2281 H' ∧ cW (mapA (List.drop i (rng (0) (Int.toNat (size')))) acc2306 (fun x => noEr (F__law_passes_c4 (acc2184) (x2292) x))) K2301 EE) ?_ ?_ ?_⟩
      · generalize g2308 : upd H2281 D2303 _ = H2309
        obtain ⟨e2310, h2311⟩ := gen_new n2304 g2308
        have fr2312 := S2282.free n2304
        have S2313 := S2282.new n2304 e2310 h2311 fr2312
        have h2314 := (e2310 _ _ h2283)
        have h2315 := (e2310 _ _ h2284)
        have w2316 : OwAll G2290 H2309 L2187 (vs2185) ((acc2184 : (List (List Int))).map (oL oI)) := (OwAll.mono (Same.refl _) (keeps_same e2310) w2288)
        have w2317 : OwAll G2290 H2309 L2277 (vs2276) ((out_2275 : (List (List Int))).map (oL oI)) := (OwAll.mono (Same.refl _) (keeps_same e2310) w2289)
        exact ⟨_, [], Same.refl _, S2313, h2314, h2315, h2311, w2316, w2317, e2310, hw⟩
      · intro i H2318 hi hw
        obtain ⟨G2321, acc2323, eG2322, S2319, h2330, h2331, h2320, w2332, w2333, eo2329, hw⟩ := hw
        obtain ⟨z2334, hw⟩ := cW_mapA (rng_get hi) hw
        generalize (0 + (i : Int)) = x2335 at hw ⊢
        have hw := cW_noEr hw
        have hw : cW (F__law_passes_c4 (acc2184) (x2292) (x2335)) _ (fun _ => False) := hw
        unfold F__law_passes_c4 at hw
        refine ⟨rfl, ?_⟩
        refine tyes_go ?_
        obtain ⟨g2337, hw⟩ := cW_grd hw
        obtain ⟨v2338, L2339, a2340, w2341, hs2342, up2343, gr2344⟩ := OwAll.partM (k := x2335) w2332 g2337
        obtain ⟨b2345, rfl, rfl, h2346⟩ := Ow.toInts w2341
        obtain ⟨g2347, hw⟩ := cW_grd hw
        refine ⟨_, rfl, _, rfl, _, _, _, _, rfl, rfl, (SqL.of h2330), a2340, _, rfl, _, _, _, _, rfl, rfl, (SqL.of h2346), (atI_map g2347), _, h2320, (app_lenM z2334), ?_⟩
        generalize g2348 : upd H2318 D2303 _ = H2349
        obtain ⟨x2350, h2351⟩ := gen_mut g2348
        have S2352 := S2319.mut1 x2350 (.head _) h2351
        have hw := cW_ok hw
        have h2353 := (x2350 _ _ h2330 (ne_of_none h2283 n2304))
        have h2354 := (x2350 _ _ h2331 (ne_of_none h2284 n2304))
        have w2355 : OwAll G2321 H2349 L2187 (vs2185) ((acc2184 : (List (List Int))).map (oL oI)) := (OwAll.mono (Same.refl _) (keeps_mut x2350 ((there_ne (fun b_ hb_ => (S2282.ow b_ (((fun b hb => (.tail _ (.tail _ (List.mem_append_left _ hb)))) : ∀ b ∈ L2187, b ∈ (D2113 :: (D2197 :: (L2187 ++ (L2277 ++ []))))) b_ hb_)).2.1) n2304) : ∀ b ∈ L2187, b ≠ D2303)) w2332)
        have w2356 : OwAll G2321 H2349 L2277 (vs2276) ((out_2275 : (List (List Int))).map (oL oI)) := (OwAll.mono (Same.refl _) (keeps_mut x2350 ((there_ne (fun b_ hb_ => (S2282.ow b_ (((fun b hb => (.tail _ (.tail _ (List.mem_append_right _ (List.mem_append_left _ hb))))) : ∀ b ∈ L2277, b ∈ (D2113 :: (D2197 :: (L2187 ++ (L2277 ++ []))))) b_ hb_)).2.1) n2304) : ∀ b ∈ L2277, b ≠ D2303)) w2333)
        exact ⟨_, (acc2323 ++ [(itD ((itD (acc2184) (x2335))) (x2292))]), eG2322, S2352, h2353, h2354, (snoc_map h2351), w2355, w2356, (same_mut eo2329 x2350 n2304), hw⟩
      intro H2357 hw
      obtain ⟨G2360, acc2362, eG2361, S2358, h2369, h2370, h2359, w2371, w2372, eo2368, hw⟩ := hw
      have hw := hK2302 _ (cW_mapA0 (rng_len _ _).symm hw)
      have fr2373 := S2282.free n2304
      refine ⟨rfl, rfl, G2360, _, _, rfl, S2358.sG, (hide_nil h2359), cW_call hw (fun v2374 hw p2377 H2375 n2378 e2376 h2379 => ?_) (fun e he H2 e2 => hE e he H2 (Same.trans S2358.b0 e2))⟩
      have h2380 : H2375 p2377 = some (.lst ((v2374 : (List Int)).map V.int)) := h2379
      have fr2381 := S2358.free n2378
      have S2382 := S2358.new n2378 e2376 h2380 fr2381
      obtain ⟨g2383, hw⟩ := cW_grd hw
      obtain ⟨K2386, hK2387, hw⟩ := cW_push hw
      refine ⟨_, rfl, _, rfl, g2383.1, g2383.2, for_range (lo := 0) (n := Int.toNat (size')) (fun i σ H' => ∃ (out_2388 : (List (List Int))) (vs2389 : List V) (L2390 : List Addr) (u2391 : Option V) (G' : Hp), σ = [some (V.ref a2106), some (V.int (size')), some (V.ref D2113), some (V.ref D2197), some (V.int (x2292)), some (V.ref p2377), u2391, none] ∧ Same G2360 G' ∧ Sep [] H G G' H' (D2113 :: (D2197 :: (p2377 :: (L2187 ++ (L2390 ++ []))))) ∧ H' D2113 = some (.lst (vs2185)) ∧ H' D2197 = some (.lst (vs2389)) ∧ H' p2377 = some (.lst ((v2374 : (List Int)).map V.int)) ∧ (∀ b ∈ L2390, b ≠ D2113) ∧ (∀ b ∈ L2390, b ≠ D2197) ∧ (∀ b ∈ L2390, b ≠ p2377) ∧ (∀ b ∈ L2390, b ∉ L2187) ∧ OwAll G' H' L2187 (vs2185) ((acc2184 : (List (List Int))).map (oL oI)) ∧ OwAll G' H' L2390 (vs2389) ((out_2388 : (List (List Int))).map (oL oI)) ∧ cW (forS (List.drop i (rng (0) (Int.toNat (size')))) out_2388 (fun s x => F__law_passes_b5 (x2292) (v2374) s x)) K2386 EE) ?_ ?_ ?_⟩
      · have h2392 := (e2376 _ _ h2369)
        have h2393 := (e2376 _ _ h2370)
        have w2394 : OwAll G2360 H2375 L2187 (vs2185) ((acc2184 : (List (List Int))).map (oL oI)) := (OwAll.mono (Same.refl _) (keeps_same e2376) w2371)
        have w2395 : OwAll G2360 H2375 L2277 (vs2276) ((out_2275 : (List (List Int))).map (oL oI)) := (OwAll.mono (Same.refl _) (keeps_same e2376) w2372)
        exact ⟨(out_2275), (vs2276), L2277, _, _, rfl, (Same.refl _), (S2382.sub (all_cons (.tail _ (.tail _ (.head _))) (all_cons (.tail _ (.tail _ (.tail _ (.head _)))) (all_cons (.head _) (all_app ((fun b hb => (.tail _ (.tail _ (.tail _ (.tail _ (List.mem_append_left _ hb)))))) : ∀ b ∈ L2187, b ∈ (p2377 :: (D2303 :: (D2113 :: (D2197 :: (L2187 ++ (L2277 ++ []))))))) (all_app ((fun b hb => (.tail _ (.tail _ (.tail _ (.tail _ (List.mem_append_right _ (List.mem_append_left _ hb))))))) : ∀ b ∈ L2277, b ∈ (p2377 :: (D2303 :: (D2113 :: (D2197 :: (L2187 ++ (L2277 ++ []))))))) all_nil)))))), h2392, h2393, h2380, ne2285, ne2286, (there_ne (fun b_ hb_ => (S2358.ow b_ (((fun b hb => (.tail _ (.tail _ (.tail _ (List.mem_append_right _ (List.mem_append_left _ hb)))))) : ∀ b ∈ L2277, b ∈ (D2303 :: (D2113 :: (D2197 :: (L2187 ++ (L2277 ++ [])))))) b_ hb_)).2.1) n2378), ne2287, w2394, w2395, hw⟩
      · intro i σ H2396 hi hw
        obtain ⟨out_2388, vs2389, L2390, u2391, G2407, rfl, eG2408, S2397, h2398, h2399, h2400, ne2401, ne2402, ne2403, ne2404, w2405, w2406, hw⟩ := hw
        have hw := cW_forS (rng_get hi) hw
        generalize (0 + (i : Int)) = x2409 at hw ⊢
        have hw : cW (F__law_passes_b5 (x2292) (v2374) (out_2388) (x2409)) _ EE := hw
        unfold F__law_passes_b5 at hw
        obtain ⟨K2411, hK2412, hw⟩ := cW_name hw
        obtain ⟨g2414, hw⟩ := cW_grd hw
        obtain ⟨g2415, hw⟩ := cW_grd hw
        obtain ⟨v2416, L2417, a2418, w2419, hs2420, up2421, gr2422⟩ := OwAll.partM (k := x2409) w2406 g2415
        obtain ⟨b2423, rfl, rfl, h2424⟩ := Ow.toInts w2419
        obtain ⟨g2425, hw⟩ := cW_grd hw
        refine ⟨_, rfl, _, rfl, _, _, _, _, rfl, rfl, (SqL.of h2400), (atI_map g2414), _, rfl, _, rfl, _, _, _, _, rfl, rfl, (SqL.of h2399), a2418, _, rfl, _, _, _, _, rfl, rfl, h2424, (ixN_map g2425), ?_⟩
        generalize g2426 : upd H2396 b2423 _ = H2427
        obtain ⟨x2428, h2429⟩ := gen_mut g2426
        have h2430 : H2427 b2423 = some (.lst ((setL ((itD (out_2388) (x2409))) (x2292) ((itD (v2374) (x2409))) : (List Int)).map V.int)) := set_map h2429
        have S2431 := S2397.mut1 x2428 ((((fun b hb => (.tail _ (.tail _ (.tail _ (List.mem_append_right _ (List.mem_append_left _ hb)))))) : ∀ b ∈ L2390, b ∈ (D2113 :: (D2197 :: (p2377 :: (L2187 ++ (L2390 ++ [])))))) : ∀ b ∈ L2390, b ∈ (D2113 :: (D2197 :: (p2377 :: (L2187 ++ (L2390 ++ [])))))) _ (hs2420 _ List.mem_cons_self)) h2430
        have w2432 : OwAll G2407 H2427 L2390 (vs2389) ((setL (out_2388) (x2409) (setL ((itD (out_2388) (x2409))) (x2292) ((itD (v2374) (x2409)))) : (List (List Int))).map (oL oI)) := upd_tree up2421 x2428 List.mem_cons_self (Ow.ints h2430)
        have hw := cW_bnd hw
        have hw := cW_ok hw
        have hw := hK2412 _ hw
        have h2434 := (x2428 _ _ h2398 (ne2401 _ (hs2420 _ List.mem_cons_self)).symm)
        have h2435 := (x2428 _ _ h2399 (ne2402 _ (hs2420 _ List.mem_cons_self)).symm)
        have h2436 := (x2428 _ _ h2400 (ne2403 _ (hs2420 _ List.mem_cons_self)).symm)
        have w2437 : OwAll G2407 H2427 L2187 (vs2185) ((acc2184 : (List (List Int))).map (oL oI)) := (OwAll.mono (Same.refl _) (keeps_mut x2428 ((fun b hb z => (fun b hb => ((nl_symm ne2404) b hb)) b hb (z ▸ (hs2420 _ List.mem_cons_self))) : ∀ b ∈ L2187, b ≠ b2423)) w2405)
        exact ⟨(setL (out_2388) (x2409) (setL ((itD (out_2388) (x2409))) (x2292) ((itD (v2374) (x2409))))), (vs2389), L2390, _, _, rfl, eG2408, (S2431.sub (all_cons (.head _) (all_cons (.tail _ (.head _)) (all_cons (.tail _ (.tail _ (.head _))) (all_app ((fun b hb => (.tail _ (.tail _ (.tail _ (List.mem_append_left _ hb))))) : ∀ b ∈ L2187, b ∈ (D2113 :: (D2197 :: (p2377 :: (L2187 ++ (L2390 ++ [])))))) (all_app ((fun b hb => (.tail _ (.tail _ (.tail _ (List.mem_append_right _ (List.mem_append_left _ hb)))))) : ∀ b ∈ L2390, b ∈ (D2113 :: (D2197 :: (p2377 :: (L2187 ++ (L2390 ++ [])))))) all_nil)))))), h2434, h2435, h2436, ne2401, ne2402, ne2403, ne2404, w2437, w2432, hw⟩
      · intro σ H2438 hw
        obtain ⟨out_2388, vs2389, L2390, u2391, G2449, rfl, eG2450, S2439, h2440, h2441, h2442, ne2443, ne2444, ne2445, ne2446, w2447, w2448, hw⟩ := hw
        have hw := hK2387 _ (cW_forS0 (rng_len _ _).symm hw)
        have hw : cW (F__law_passes_r5  (out_2388)) _ EE := hw
        unfold F__law_passes_r5 at hw
        have hw := cW_ok hw
        have hw := hK2295 _ hw
        exact ⟨(out_2388), (vs2389), L2390, _, _, _, _, rfl, (Same.trans (Same.trans eG2291 eG2361) eG2450), (S2439.sub (all_cons (.head _) (all_cons (.tail _ (.head _)) (all_app ((fun b hb => (.tail _ (.tail _ (.tail _ (List.mem_append_left _ hb))))) : ∀ b ∈ L2187, b ∈ (D2113 :: (D2197 :: (p2377 :: (L2187 ++ (L2390 ++ [])))))) (all_app ((fun b hb => (.tail _ (.tail _ (.tail _ (List.mem_append_right _ (List.mem_append_left _ hb)))))) : ∀ b ∈ L2390, b ∈ (D2113 :: (D2197 :: (p2377 :: (L2187 ++ (L2390 ++ [])))))) all_nil))))), h2440, h2441, ne2443, ne2444, ne2446, w2447, w2448, hw⟩
    · intro σ H2452 hw
      obtain ⟨out_2275, vs2276, L2277, u2278, u2279, u2280, G2461, rfl, eG2462, S2453, h2454, h2455, ne2456, ne2457, ne2458, w2459, w2460, hw⟩ := hw
      have hw := hK2274 _ (cW_forS0 (rng_len _ _).symm hw)
      have hw : cW (F__law_passes_r3  (out_2275)) _ EE := hw
      unfold F__law_passes_r3 at hw
      refine ⟨_, rfl, ?_⟩
      have hw := cW_ok hw
      exact hK0 _ hw _ _ _ _ _ fr2269 ((fun b hb => Sep.h0 S2453 (((fun b hb => (.tail _ (.tail _ (List.mem_append_right _ (List.mem_append_left _ hb))))) : ∀ b ∈ L2277, b ∈ (D2113 :: (D2197 :: (L2187 ++ (L2277 ++ []))))) b hb) nm_nil) : ∀ b ∈ L2277, H b = none) (ne2457 : ∀ b ∈ L2277, b ≠ D2197) S2453.b0 S2453.g0 S2453.sG S2453.gn (S2453.ow _ (.tail _ (.head _))).1 ((fun b hb => (S2453.ow b (((fun b hb => (.tail _ (.tail _ (List.mem_append_right _ (List.mem_append_left _ hb))))) : ∀ b ∈ L2277, b ∈ (D2113 :: (D2197 :: (L2187 ++ (L2277 ++ []))))) b hb)).1) : ∀ b ∈ L2277, G2461 b = none) h2455 w2460

abbrev N__law_refused : List Str := ["rows", "told"]
theorem sc__law_refused : FnScope N__law_refused ["rows"] (defScope s__law_refused) := ⟨rfl, rfl, rfl, by decide +kernel, rfl, by decide +kernel, by decide +kernel⟩
theorem ok__law_refused (D : DefX K mg "_law_refused" s__law_refused ["rows"] pats__law_refused) (T : Txt K mg AD) (c_forward_square : CalX P w K mg base 5 "forward_square" (sp_forward_square K AD) pats_forward_square) (c_inverse_square : CalX P w K mg base 5 "inverse_square" (sp_inverse_square K AD) pats_inverse_square) : CalX P w K mg base 6 "_law_refused" (sp__law_refused K AD) pats__law_refused := by
  refine D.ok sc__law_refused (fun vs H Q E h => ?_) (fun f cdv A_ outer s H vs Q E hr h => ?_)
  · obtain ⟨G, v_rows, rows', rfl, _⟩ := h
    rfl
  · obtain ⟨G, v_rows, rows', rfl, sG, r_rows, hw⟩ := h
    refine ⟨_, (pss_cons (ps_set (i := 1) sc__law_refused.nd rfl (Or.inl rfl) pe_int)
      (C8.pss_cut (ps_try_only rfl rfl ⟨rfl, by decide, .inl T.xg_OutOfRange⟩ (takes_of rfl rfl rfl rfl) (fun W pn xe tk pse => (pss_one (ps_expr (vx_callX c_forward_square pat_forward_square_0 (.head _) hr (by decide) tk rfl (pa_cons (pv 0) pa_nil) pk_nil)))) (fun a oe cls d pn _ _ => (pss_one (ps_aug (i := 1) sc__law_refused.nd rfl (Or.inl rfl) pe_int (pip iop_add)))))
      (C8.pss_cut (ps_try_only rfl rfl ⟨rfl, by decide, .inl T.xg_OutOfRange⟩ (takes_of rfl rfl rfl rfl) (fun W pn xe tk pse => (pss_one (ps_expr (vx_callX c_inverse_square pat_inverse_square_0 (.head _) hr (by decide) tk rfl (pa_cons (pv 0) pa_nil) pk_nil)))) (fun a oe cls d pn _ _ => (pss_one (ps_aug (i := 1) sc__law_refused.nd rfl (Or.inl rfl) pe_int (pip iop_add)))))
      (pss_one (ps_ret (pe_cmp (pc_eqI (pv 1) pe_int))))))), ?_⟩
    obtain ⟨KK, EE, hK0, hE, hw⟩ := cW_gen hw
    have S0 := Sep.startG sG
    unfold F__law_refused at hw
    obtain ⟨a2464, vs2465, rfl, h2466, d2467⟩ := rp_list r_rows
    refine ⟨fun σ H' => ∃ (told_2470 : Int) (G' : Hp), σ = [some (V.ref a2464), some (V.int told_2470)] ∧ Same G G' ∧ Sep [] H G G' H' [] ∧ cW (F__law_refused_k1 (rows') told_2470) KK EE, ?_, ?_⟩
    · obtain ⟨K2471, hK2472, hw⟩ := cW_push hw
      refine ⟨_, rfl, rfl, rfl, G, _, _, rfl, S0.sG, (Rp.hide_nil (rp_mk_list (S0.bM _ _ h2466) (RpAll.mono S0.bM d2467))), cW_try hw (fun v2473 hw H2474 a2476 vs2477 L2478 G2479 n2480 nb2481 nd2482 e2475 eG2483 sG2484 hn2485 ga2486 gL2487 h2488 w2489 => ?_) ?_⟩
      · have fr2490 := S0.free n2480
        have S2491 : Sep _ _ _ _ H2474 (a2476 :: (L2478 ++ [])) := Sep.steptree S0 e2475 eG2483 sG2484 hn2485 (a2476 :: L2478) (all_cons ⟨n2480, ga2486, some_ne h2488⟩ (fun b hb => ⟨nb2481 b hb, gL2487 b hb, OwAll.there w2489 b hb⟩))
        have hw := cW_ok hw
        have hw := hK2472 _ hw
        exact ⟨(0), _, rfl, eG2483, (S2491.sub all_nil), hw⟩
      · intro e hm hw H2492 e2493
        have S2494 := S0.same e2493
        obtain rfl := mem_one hm
        refine ⟨true, T.xm_OutOfRange_OutOfRange, fun _ _ _ => ?_, fun q => nomatch q⟩
        refine ⟨_, rfl, _, _, rfl, rfl, ?_⟩
        have hw := cW_bnd hw
        have hw := cW_ok hw
        have hw := hK2472 _ hw
        exact ⟨((0 + 1)), _, rfl, (Same.refl _), S2494, hw⟩
    · intro σ H2496 hw
      obtain ⟨told_2470, G2498, rfl, eG2499, S2497, hw⟩ := hw
      unfold F__law_refused_k1 at hw
      refine ⟨fun σ H' => ∃ (told_2501 : Int) (G' : Hp), σ = [some (V.ref a2464), some (V.int told_2501)] ∧ Same G2498 G' ∧ Sep [] H G G' H' [] ∧ cW (F__law_refused_k2  told_2501) KK EE, ?_, ?_⟩
      · obtain ⟨K2502, hK2503, hw⟩ := cW_push hw
        refine ⟨_, rfl, rfl, rfl, G2498, _, _, rfl, S2497.sG, (Rp.hide_nil (rp_mk_list (S2497.bM _ _ h2466) (RpAll.mono S2497.bM d2467))), cW_try hw (fun v2504 hw H2505 a2507 vs2508 L2509 G2510 n2511 nb2512 nd2513 e2506 eG2514 sG2515 hn2516 ga2517 gL2518 h2519 w2520 => ?_) ?_⟩
        · have fr2521 := S2497.free n2511
          have S2522 : Sep _ _ _ _ H2505 (a2507 :: (L2509 ++ [])) := Sep.steptree S2497 e2506 eG2514 sG2515 hn2516 (a2507 :: L2509) (all_cons ⟨n2511, ga2517, some_ne h2519⟩ (fun b hb => ⟨nb2512 b hb, gL2518 b hb, OwAll.there w2520 b hb⟩))
          have hw := cW_ok hw
          have hw := hK2503 _ hw
          exact ⟨(told_2470), _, rfl, eG2514, (S2522.sub all_nil), hw⟩
        · intro e hm hw H2523 e2524
          have S2525 := S2497.same e2524
          obtain rfl := mem_one hm
          refine ⟨true, T.xm_OutOfRange_OutOfRange, fun _ _ _ => ?_, fun q => nomatch q⟩
          refine ⟨_, rfl, _, _, rfl, rfl, ?_⟩
          have hw := cW_bnd hw
          have hw := cW_ok hw
          have hw := hK2503 _ hw
          exact ⟨((told_2470 + 1)), _, rfl, (Same.refl _), S2525, hw⟩
      · intro σ H2527 hw
        obtain ⟨told_2501, G2529, rfl, eG2530, S2528, hw⟩ := hw
        unfold F__law_refused_k2 at hw
        refine ⟨_, rfl, _, _, rfl, rfl, ?_⟩
        have hw := cW_ok hw
        exact hK0 _ hw _ S2528.b0

abbrev N_law : List Str := ["script", "k", "cell", "size", "most", "rows", "kept", "turned", "greatest", "row", "item", "back", "other", "bad", "wrong", "j"]
theorem sc_law : FnScope N_law ["script"] (defScope s_law) := ⟨rfl, rfl, rfl, by decide +kernel, rfl, by decide +kernel, by decide +kernel⟩
theorem ok_law {f : Addr} {fd : FuncData} (F : FunD K "law" "law" (defArgs s_law) (defBody s_law) (defScope s_law) [] [] f fd) (T : Txt K mg AD) (c__law_cell : CalX P w K mg base 1 "_law_cell" (sp__law_cell K AD) pats__law_cell) (c__law_rows : CalX P w K mg base 2 "_law_rows" (sp__law_rows K AD) pats__law_rows) (c_forward_square : CalX P w K mg base 5 "forward_square" (sp_forward_square K AD) pats_forward_square) (c__law_passes : CalX P w K mg base 5 "_law_passes" (sp__law_passes K AD) pats__law_passes) (c__law_is_square : CalX P w K mg base 1 "_law_is_square" (sp__law_is_square K AD) pats__law_is_square) (c_inverse_square : CalX P w K mg base 5 "inverse_square" (sp_inverse_square K AD) pats_inverse_square) (c__law_refused : CalX P w K mg base 6 "_law_refused" (sp__law_refused K AD) pats__law_refused) : FnG P w K mg base CX0 7 f fd ["script"] (sp_law K AD) := by
  refine FnG.bodyN F sc_law (fun vs H Q E h => ?_) (fun cdv A_ outer s H vs Q E hr h => ?_)
  · obtain ⟨a_script, script, rfl, _⟩ := h
    rfl
  · obtain ⟨a_script, script', rfl, q_script, hw, k⟩ := h
    refine ⟨_, (pss_cons (ps_for PassesOwn.never rfl (pi_range1 rfl T.b_range (pa_cons (pe_callB (call_min2 rfl) (by rfl) T.b_min (by decide +kernel) (pa_cons (pe_op op_add pe_int (pe_callB (call_lenLiK (K := K)) (by rfl) T.b_len (by decide +kernel) (pa_cons (pv 0) pa_nil))) (pa_cons pe_int pa_nil))) pa_nil)) (pg_name (i := 1) sc_law.nd rfl (Or.inl rfl)) (pss_cons (ps_set (i := 2) sc_law.nd rfl (Or.inl rfl) (pe_op op_add (vx_callX c__law_cell pat__law_cell_0 (.head _) hr (by decide) takes0 rfl (pa_cons (pv 0) (pa_cons (pv 1) pa_nil)) pk_nil) (pv 1)))
      (pss_cons (ps_set (i := 3) sc_law.nd rfl (Or.inr rfl) (pe_op op_add pe_int (pe_op op_mul pe_int (pe_op op_mod (pv 2) pe_int))))
      (pss_cons (ps_set (i := 4) sc_law.nd rfl (Or.inl rfl) (pe_ix (ix_listK (K := K)) (pe_lst (pa_cons pe_int (pa_cons pe_int (pa_cons pe_int (pa_cons (pe_op op_pow pe_int pe_int) pa_nil))))) (pe_op op_mod (pe_op op_fdivW (pv 2) pe_int) pe_int) (fun _ _ => rfl)))
      (pss_cons (ps_set (i := 5) sc_law.nd rfl (Or.inl rfl) (vx_callX c__law_rows pat__law_rows_0 (.head _) hr (by decide) takes0 rfl (pa_cons (pe_op op_fdivW (pv 2) pe_int) (pa_cons (pv 3) (pa_cons (pv 4) pa_nil))) pk_nil))
      (pss_cons (ps_set (i := 6) sc_law.nd rfl (Or.inl rfl) (pe_callB (call_reprD hr.gd hr.units) (by rfl) T.b_repr (by decide +kernel) (pa_cons (pv 5) pa_nil)))
      (pss_cons (ps_set (i := 7) sc_law.nd rfl (Or.inl rfl) (vx_callX c_forward_square pat_forward_square_0 (.head _) hr (by decide) takes0 rfl (pa_cons (pv 5) pa_nil) pk_nil))
      (pss_cons (ps_if (PW.pt (pw_or (pt_not (pt_val (vx_callX c__law_is_square pat__law_is_square_0 (.head _) hr (by decide) takes0 rfl (pa_cons (pv 7) (pa_cons (pv 3) pa_nil)) pk_nil))) (pw_or (pt_cmpR op_ne (pe_callB (call_reprD hr.gd hr.units) (by rfl) T.b_repr (by decide +kernel) (pa_cons (pv 5) pa_nil)) (pv 6) (nomark _)) (pw_or1 (pt_cmpR (op_neT (encOk_L (encOk_L encOk_int)) hr.units) (pv 7) (vx_callX c__law_passes pat__law_passes_0 (.head _) hr (by decide) takes0 rfl (pa_cons (pv 5) (pa_cons (pv 3) pa_nil)) pk_nil) (nomark _)))))) (pss_one (ps_ret pe_bl)) pss_nil)
      (pss_cons (ps_set (i := 8) sc_law.nd rfl (Or.inl rfl) (pe_callB (cr_maxL (K := K) rfl) (by rfl) T.b_max (by decide +kernel) (pa_cons (pe_lc (own := [("row", 9)]) (g := gName 9) (by rfl) sc_law.nd (pi_listK (K := K) (pv 5)) (blkOk_by (own := [("row", 9)]) (N := N_law) (sc := defScope s_law) (by decide +kernel)) (fun _ _ _ _ _ => (pg_name (i := 9) sc_law.nd rfl (Or.inl rfl))) (fun _ _ _ _ _ => pts_nil) (fun _ _ _ _ _ => (pe_callB (cr_maxL (K := K) rfl) (by rfl) T.b_max (by decide +kernel) (pa_cons (pe_lc (own := [("item", 10)]) (g := gName 10) (by rfl) sc_law.nd (pi_listK (K := K) (pv 9)) (blk_relabel (blkOk_by (own := [("item", 10)]) (N := N_law) (by decide +kernel))) (fun _ _ _ _ _ => (pg_name (i := 10) sc_law.nd rfl (Or.inl rfl))) (fun _ _ _ _ _ => pts_nil) (fun _ _ _ _ _ => (pe_callB call_abs (by rfl) T.b_abs (by decide +kernel) (pa_cons (pv 10) pa_nil)))) pa_nil)))) pa_nil)))
      (pss_cons (ps_for PassesOwn.never rfl (pi_listK (K := K) (pv 7)) (pg_name (i := 9) sc_law.nd rfl (Or.inl rfl)) (pss_one (ps_for PassesOwn.never rfl (pi_listK (K := K) (pv 9)) (pg_name (i := 10) sc_law.nd rfl (Or.inl rfl)) (pss_one (ps_if (pt_cmp (pc_gt (pe_callB call_abs (by rfl) T.b_abs (by decide +kernel) (pa_cons (pv 10) pa_nil)) (pe_op op_add (pe_op op_mul pe_int (pv 8)) pe_int))) (pss_one (ps_ret pe_bl)) pss_nil)))))
      (pss_cons (ps_set (i := 11) sc_law.nd rfl (Or.inl rfl) (vx_callX c_inverse_square pat_inverse_square_0 (.head _) hr (by decide) takes0 rfl (pa_cons (pv 7) pa_nil) pk_nil))
      (pss_cons (ps_set (i := 12) sc_law.nd rfl (Or.inl rfl) (vx_callX c_inverse_square pat_inverse_square_0 (.head _) hr (by decide) takes0 rfl (pa_cons (pv 5) pa_nil) pk_nil))
      (pss_cons (ps_if (PW.pt (pw_or (pt_not (pt_val (vx_callX c__law_is_square pat__law_is_square_0 (.head _) hr (by decide) takes0 rfl (pa_cons (pv 11) (pa_cons (pv 3) pa_nil)) pk_nil))) (pw_or (pt_cmpR (op_neT (encOk_L (encOk_L encOk_int)) hr.units) (pv 11) (pv 5) (nomark _)) (pw_or1 (pt_cmpR op_ne (pe_callB (call_reprD hr.gd hr.units) (by rfl) T.b_repr (by decide +kernel) (pa_cons (pv 5) pa_nil)) (pv 6) (nomark _)))))) (pss_one (ps_ret pe_bl)) pss_nil)
      (pss_cons (ps_if (PW.pt (pw_or (pt_not (pt_val (vx_callX c__law_is_square pat__law_is_square_0 (.head _) hr (by decide) takes0 rfl (pa_cons (pv 12) (pa_cons (pv 3) pa_nil)) pk_nil))) (pw_or1 (pt_cmpR (op_neT (encOk_L (encOk_L encOk_int)) hr.units) (vx_callX c_forward_square pat_forward_square_0 (.head _) hr (by decide) takes0 rfl (pa_cons (pv 12) pa_nil) pk_nil) (pv 5) (nomark _))))) (pss_one (ps_ret pe_bl)) pss_nil)
      (pss_cons (ps_setLc (i := 13) (y := "bad") rfl sc_law.nd rfl rfl (sw_true rfl rfl rfl (by decide +kernel)) (own := [("row", 9)]) (g := gName 9) (pi_listK (K := K) (pv 5)) (blkOk_by (own := [("row", 9)]) (N := N_law) (sc := defScope s_law) (by decide +kernel)) (fun _ _ _ _ _ => (pg_name (i := 9) sc_law.nd rfl (Or.inl rfl))) (fun _ _ _ _ _ => pts_nil) (fun _ _ _ _ _ => (pe_callTy (call_listLK (K := K)) (by rfl) T.b_list (by decide +kernel) (pa_cons (pv 9) pa_nil))))
      (C8.pss_cut (ps_if (pt_cmp (pc_eqI (pe_op op_mod (pe_op op_fdivW (pv 2) pe_int) pe_int) pe_int)) (pss_one (ps_expr (pe_bm PySem.F.plainAttrs_list PySem.F.slot_list_append PySem.F.type_list_append mt_append (pv 13) (pa_cons (pe_op op_rep (pe_lst (pa_cons pe_int pa_nil)) (pv 3)) pa_nil)))) (pss_one (ps_if (pt_cmp (pc_eqI (pe_op op_mod (pe_op op_fdivW (pv 2) pe_int) pe_int) pe_int)) (pss_one (ps_expr (pe_bm PySem.F.plainAttrs_list PySem.F.slot_list_append PySem.F.type_list_append mt_append (pe_ix (ix_listK (K := K)) (pv 13) (pe_op op_mod (pe_op op_fdivW (pv 2) pe_int) (pv 3)) (fun _ _ => rfl)) (pa_cons pe_int pa_nil)))) (pss_one (ps_asg (pe_slice (sl_listK (K := K)) (pe_ix (ix_listK (K := K)) (pv 13) (pe_op op_mod (pe_op op_fdivW (pv 2) pe_int) (pv 3)) (fun _ _ => rfl)) (po_some pe_int) po_none) (pg_sub (pv 13) (pe_op op_mod (pe_op op_fdivW (pv 2) pe_int) (pv 3)) set_list))))))
      (pss_cons (ps_setLc (i := 12) (y := "other") rfl sc_law.nd rfl rfl (sw_true rfl rfl rfl (by decide +kernel)) (own := [("row", 9)]) (g := gName 9) (pi_listK (K := K) (pv 5)) (blkOk_by (own := [("row", 9)]) (N := N_law) (sc := defScope s_law) (by decide +kernel)) (fun _ _ _ _ _ => (pg_name (i := 9) sc_law.nd rfl (Or.inl rfl))) (fun _ _ _ _ _ => pts_nil) (fun _ _ _ _ _ => (pe_callTy (call_listLK (K := K)) (by rfl) T.b_list (by decide +kernel) (pa_cons (pv 9) pa_nil))))
      (pss_cons (ps_asg (pe_op op_rep (pe_lst (pa_cons pe_int pa_nil)) (pe_op op_sub pe_int (pv 3))) (pg_sub (pv 12) (pe_op op_mod (pe_op op_fdivW (pv 2) pe_int) (pv 3)) set_list))
      (pss_cons (ps_if (PW.pt (pw_or (pt_not (pt_val (vx_callX c__law_refused pat__law_refused_0 (.head _) hr (by decide) takes0 rfl (pa_cons (pv 12) pa_nil) pk_nil))) (pw_or1 (pt_not (pt_val (vx_callX c__law_refused pat__law_refused_0 (.head _) hr (by decide) takes0 rfl (pa_cons (pe_lc (own := [("j", 15)]) (g := gName 15) (by rfl) sc_law.nd (pi_range1 rfl T.b_range (pa_cons (pv 3) pa_nil)) (blkOk_by (own := [("j", 15)]) (N := N_law) (sc := defScope s_law) (by decide +kernel)) (fun _ _ _ _ _ => (pg_name (i := 15) sc_law.nd rfl (Or.inl rfl))) (fun _ _ _ _ _ => pts_nil) (fun _ _ _ _ _ => (pe_op op_rep (pe_lst (pa_cons pe_int pa_nil)) (pe_op op_sub pe_int (pv 3))))) pa_nil) pk_nil)))))) (pss_one (ps_ret pe_bl)) pss_nil)
      (pss_cons (ps_set (i := 14) sc_law.nd rfl (Or.inr rfl) (pe_op op_mod (pe_op op_fdivW (pv 2) pe_int) pe_int))
      (C8.pss_cut (ps_if (PW.pt (pw_or (pt_cmp (pc_eqI (pv 14) pe_int)) (pw_or1 (pt_cmp (pc_eqI (pv 14) pe_int))))) (pss_one (ps_set (i := 14) sc_law.nd rfl (Or.inr rfl) pe_int)) pss_nil)
      (pss_one (ps_if (PW.pt (pw_or (pt_not (pt_val (vx_callX c__law_refused pat__law_refused_0 (.head _) hr (by decide) takes0 rfl (pa_cons (pv 13) pa_nil) pk_nil))) (pw_or1 (pt_not (pt_val (vx_callX c__law_refused pat__law_refused_0 (.head _) hr (by decide) takes0 rfl (pa_cons (pe_lc (own := [("j", 15)]) (g := gName 15) (by rfl) sc_law.nd (pi_range1 rfl T.b_range (pa_cons (pv 14) pa_nil)) (blkOk_by (own := [("j", 15)]) (N := N_law) (sc := defScope s_law) (by decide +kernel)) (fun _ _ _ _ _ => (pg_name (i := 15) sc_law.nd rfl (Or.inl rfl))) (fun _ _ _ _ _ => pts_nil) (fun _ _ _ _ _ => (pe_op op_rep (pe_lst (pa_cons pe_int pa_nil)) (pv 14)))) pa_nil) pk_nil)))))) (pss_one (ps_ret pe_bl)) pss_nil)))))))))))))))))))))))
      (pss_one (ps_ret pe_bl))), ?_⟩
    obtain ⟨KK, EE, hK0, hE, hw⟩ := cW_gen hw
    have S0 := Sep.start0 H
    unfold F_law at hw
    obtain ⟨g2531, hw⟩ := cW_grd hw
    obtain ⟨K2533, hK2534, hw⟩ := cW_push hw
    refine ⟨_, rfl, _, _, rfl, (S0.b0.seq q_script), _, _, rfl, rfl, _, _, rfl, _, rfl, g2531.1, g2531.2, for_range (lo := 0) (n := Int.toNat ((if 5 < (1 + (((script') : (List Int)).length : Int)) then 5 else (1 + (((script') : (List Int)).length : Int))))) (fun i σ H' => ∃ (u2535 : Option V) (u2536 : Option V) (u2537 : Option V) (u2538 : Option V) (u2539 : Option V) (u2540 : Option V) (u2541 : Option V) (u2542 : Option V) (u2543 : Option V) (u2544 : Option V) (u2545 : Option V) (u2546 : Option V) (u2547 : Option V) (u2548 : Option V) (G' : Hp), σ = [some (V.ref a_script), u2535, u2536, u2537, u2538, u2539, u2540, u2541, u2542, u2543, u2544, u2545, u2546, u2547, u2548, none] ∧ Same H G' ∧ Sep [] H H G' H' [] ∧ cW (forR (List.drop i (rng (0) (Int.toNat ((if 5 < (1 + (((script') : (List Int)).length : Int)) then 5 else (1 + (((script') : (List Int)).length : Int))))))) () (fun s x => F_law_b1 (script')  x)) K2533 EE) ?_ ?_ ?_⟩
    · exact ⟨_, _, _, _, _, _, _, _, _, _, _, _, _, _, _, rfl, (Same.refl _), S0, hw⟩
    · intro i σ H2549 hi hw
      obtain ⟨u2535, u2536, u2537, u2538, u2539, u2540, u2541, u2542, u2543, u2544, u2545, u2546, u2547, u2548, G2551, rfl, eG2552, S2550, hw⟩ := hw
      have hw := cW_forR (rng_get hi) hw
      generalize (0 + (i : Int)) = x2553 at hw ⊢
      have hw : cW (F_law_b1 (script')  (x2553)) _ EE := hw
      unfold F_law_b1 at hw
      obtain ⟨K2554, hK2555, hw⟩ := cW_name hw
      refine ⟨_, rfl, _, rfl, rfl, rfl, G2551, _, _, _, rfl, S2550.sG, (S2550.b0.seq q_script), cW_call hw (fun v2557 hw => ?_) (fun e he => (hE e he).elim)⟩
      refine ⟨_, rfl, _, _, rfl, rfl, ?_⟩
      have hw := cW_bnd hw
      refine ⟨_, rfl, _, _, rfl, rfl, (show (0 : Int) < 2 by decide), _, _, rfl, rfl, (.inl ⟨by decide, by decide⟩), _, _, rfl, rfl, ?_⟩
      have hw := cW_bnd hw
      refine ⟨_, _, rfl, rfl, ⟨by decide, by decide, by decide⟩, (by show 4 ≤ sizeLine; decide), fun p2560 n2561 => ?_⟩
      generalize g2562 : upd H2549 p2560 _ = H2563
      obtain ⟨e2564, h2565⟩ := gen_new n2561 g2562
      have h2566 : H2563 p2560 = some (.lst (([1, 255, 4095, 1000000000] : (List Int)).map V.int)) := h2565
      have fr2567 := S2550.free n2561
      have S2568 := S2550.new n2561 e2564 h2566 fr2567
      obtain ⟨g2569, hw⟩ := cW_grd hw
      refine ⟨_, rfl, _, _, rfl, rfl, (divW_lit (by decide) (by decide)), _, _, rfl, rfl, (show (0 : Int) < 4 by decide), _, _, _, _, rfl, rfl, (SqL.of h2566), (atI_map g2569), ?_⟩
      have hw := cW_bnd hw
      refine ⟨_, rfl, _, _, rfl, rfl, (divW_lit (by decide) (by decide)), _, rfl, _, rfl, rfl, rfl, G2551, _, _, _, rfl, S2568.sG, cW_call hw (fun v2571 hw H2572 a2574 vs2575 L2576 G2577 n2578 nb2579 nd2580 e2573 eG2581 sG2582 hn2583 ga2584 gL2585 h2586 w2587 => ?_) (fun e he => (hE e he).elim)⟩
      have fr2588 := S2568.free n2578
      have S2589 : Sep _ _ _ _ H2572 (a2574 :: (L2576 ++ (p2560 :: []))) := Sep.steptree S2568 e2573 eG2581 sG2582 hn2583 (a2574 :: L2576) (all_cons ⟨n2578, ga2584, some_ne h2586⟩ (fun b hb => ⟨nb2579 b hb, gL2585 b hb, OwAll.there w2587 b hb⟩))
      obtain ⟨g2590, hw⟩ := cW_grd hw
      refine ⟨_, rfl, _, ((encL (encL PyData.int)) (v2571)), rfl, (rp_mk_list h2586 (OwAll.rpA w2587 (encO_L encO_I) S2589.sG)), g2590, _, rfl, rfl, rfl, G2577, _, _, rfl, S2589.sG, (Rp.hide_nil (rp_mk_list h2586 (OwAll.rpA w2587 (encO_L encO_I) S2589.sG))), cW_call hw (fun v2591 hw H2592 a2594 vs2595 L2596 G2597 n2598 nb2599 nd2600 e2593 eG2601 sG2602 hn2603 ga2604 gL2605 h2606 w2607 => ?_) (fun e he => (hE e he).elim)⟩
      have fr2608 := S2589.free n2598
      have S2609 : Sep _ _ _ _ H2592 (a2594 :: (L2596 ++ (a2574 :: (L2576 ++ (p2560 :: []))))) := Sep.steptree S2589 e2593 eG2601 sG2602 hn2603 (a2594 :: L2596) (all_cons ⟨n2598, ga2604, some_ne h2606⟩ (fun b hb => ⟨nb2599 b hb, gL2605 b hb, OwAll.there w2607 b hb⟩))
      refine ⟨_, rfl, _, rfl, rfl, rfl, G2597, _, _, _, rfl, S2609.sG, (Rp.hide_nil (rp_mk_list h2606 (OwAll.rpA w2607 (encO_L encO_I) S2609.sG))), cW_call hw (fun v2610 hw H2611 e2612 => ?_) (fun e he => (hE e he).elim)⟩
      have S2613 := S2609.same e2612
      refine ⟨_, rfl, ?_⟩
      refine iteBN (fun c2614 => ?_) (fun c2614 => ?_)
      · have hw := cW_negB c2614 hw
        refine iteT ?_
        have hw := cW_ok hw
        have hw := hK2555 (.rt _) hw
        have hw := hK2534 (.rt _) hw
        have hw := cW_ok hw
        exact eq_bl (k _) (hK0 _ hw).symm
      · have hw := cW_pos c2614 hw
        obtain ⟨g2615, hw⟩ := cW_grd hw
        have h2616 := (e2612 _ _ (e2593 _ _ h2586))
        have w2617 : OwAll G2597 H2611 L2576 (vs2575) ((v2571 : (List (List Int))).map (oL oI)) := (OwAll.mono eG2601 keeps_refl (OwAll.mono (Same.refl _) (keeps_same e2612) (OwAll.mono (Same.refl _) (keeps_same e2593) w2587)))
        refine ⟨_, rfl, _, ((encL (encL PyData.int)) (v2571)), rfl, (rp_mk_list h2616 (OwAll.rpA w2617 (encO_L encO_I) S2613.sG)), g2615, _, rfl, rfl, _, rfl, ?_⟩
        refine iteN (fun c2618 => ?_) (fun c2618 => ?_)
        · have hw := cW_neg c2618 hw
          refine iteT ?_
          have hw := cW_ok hw
          have hw := hK2555 (.rt _) hw
          have hw := hK2534 (.rt _) hw
          have hw := cW_ok hw
          exact eq_bl (k _) (hK0 _ hw).symm
        · have hw := cW_pos c2618 hw
          refine ⟨_, rfl, _, rfl, _, rfl, rfl, rfl, G2597, _, _, _, rfl, S2613.sG, (Rp.hide_nil (rp_mk_list h2616 (OwAll.rpA w2617 (encO_L encO_I) S2613.sG))), cW_call hw (fun v2619 hw H2620 a2622 vs2623 L2624 G2625 n2626 nb2627 nd2628 e2621 eG2629 sG2630 hn2631 ga2632 gL2633 h2634 w2635 => ?_) (fun e he => (hE e he).elim)⟩
          have fr2636 := S2613.free n2626
          have S2637 : Sep _ _ _ _ H2620 (a2622 :: (L2624 ++ (a2594 :: (L2596 ++ (a2574 :: (L2576 ++ (p2560 :: []))))))) := Sep.steptree S2613 e2621 eG2629 sG2630 hn2631 (a2622 :: L2624) (all_cons ⟨n2626, ga2632, some_ne h2634⟩ (fun b hb => ⟨nb2627 b hb, gL2633 b hb, OwAll.there w2635 b hb⟩))
          have h2638 := (e2621 _ _ (e2612 _ _ h2606))
          have w2639 : OwAll G2625 H2620 L2596 (vs2595) ((v2591 : (List (List Int))).map (oL oI)) := (OwAll.mono eG2629 keeps_refl (OwAll.mono (Same.refl _) (keeps_same e2621) (OwAll.mono (Same.refl _) (keeps_same e2612) w2607)))
          refine ⟨_, _, (rp_mk_list h2638 (OwAll.rpA w2639 (encO_L encO_I) S2637.sG)), (rp_mk_list h2634 (OwAll.rpA w2635 (encO_L encO_I) S2637.sG)), _, rfl, ?_⟩
          refine iteN (fun c2640 => ?_) (fun c2640 => ?_)
          · have hw := cW_neg c2640 hw
            have hw := cW_ok hw
            have hw := hK2555 (.rt _) hw
            have hw := hK2534 (.rt _) hw
            have hw := cW_ok hw
            exact eq_bl (k _) (hK0 _ hw).symm
          · have hw := cW_pos c2640 hw
            have h2641 := (e2621 _ _ h2616)
            obtain ⟨K2643, hK2644, hw⟩ := cW_push hw
            refine ⟨_, rfl, _, rfl, ⟨_, (SqL.of h2641)⟩, fun D2645 n2646 => lc_list (K := K) (a := a2574) (xs := vs2575) (fun i H' => ∃ (G' : Hp) (acc2648 : (List Int)), Same G2625 G' ∧ Sep [] H H G' H' (D2645 :: (a2574 :: (a2594 :: (L2576 ++ (L2596 ++ []))))) ∧ H' a2574 = some (.lst (vs2575)) ∧ H' a2594 = some (.lst (vs2595)) ∧ H' D2645 = some (.lst ((acc2648 : (List Int)).map V.int)) ∧ OwAll G' H' L2576 (vs2575) ((v2571 : (List (List Int))).map (oL oI)) ∧ OwAll G' H' L2596 (vs2595) ((v2591 : (List (List Int))).map (oL oI)) ∧ Same H2620 H' ∧ cW (mapA (List.drop i (v2571)) acc2648 (fun x => noEr (F_law_c2  x))) K2643 EE) ?_ ?_ ?_ ?_⟩
            · generalize g2650 : upd H2620 D2645 _ = H2651
              obtain ⟨e2652, h2653⟩ := gen_new n2646 g2650
              have fr2654 := S2637.free n2646
              have S2655 := S2637.new n2646 e2652 h2653 fr2654
              have h2656 := (e2652 _ _ h2641)
              have h2657 := (e2652 _ _ h2638)
              have w2658 : OwAll G2625 H2651 L2576 (vs2575) ((v2571 : (List (List Int))).map (oL oI)) := (OwAll.mono eG2629 keeps_refl (OwAll.mono (Same.refl _) (keeps_same e2652) (OwAll.mono (Same.refl _) (keeps_same e2621) w2617)))
              have w2659 : OwAll G2625 H2651 L2596 (vs2595) ((v2591 : (List (List Int))).map (oL oI)) := (OwAll.mono (Same.refl _) (keeps_same e2652) w2639)
              exact ⟨_, [], Same.refl _, (S2655.sub (all_cons (.head _) (all_cons (.tail _ (.tail _ (List.mem_append_right _ (.tail _ (List.mem_append_right _ (.head _)))))) (all_cons (.tail _ (.tail _ (List.mem_append_right _ (.head _)))) (all_app ((fun b hb => (.tail _ (.tail _ (List.mem_append_right _ (.tail _ (List.mem_append_right _ (.tail _ (List.mem_append_left _ hb)))))))) : ∀ b ∈ L2576, b ∈ (D2645 :: (a2622 :: (L2624 ++ (a2594 :: (L2596 ++ (a2574 :: (L2576 ++ (p2560 :: []))))))))) (all_app ((fun b hb => (.tail _ (.tail _ (List.mem_append_right _ (.tail _ (List.mem_append_left _ hb)))))) : ∀ b ∈ L2596, b ∈ (D2645 :: (a2622 :: (L2624 ++ (a2594 :: (L2596 ++ (a2574 :: (L2576 ++ (p2560 :: []))))))))) all_nil)))))), h2656, h2657, h2653, w2658, w2659, e2652, hw⟩
            · intro i H2660 _ hw
              obtain ⟨G2663, acc2665, eG2664, S2661, h2672, h2673, h2662, w2674, w2675, eo2671, hw⟩ := hw
              exact (SqL.of h2672)
            · intro i x H2676 hj hw
              obtain ⟨G2679, acc2681, eG2680, S2677, h2688, h2689, h2678, w2690, w2691, eo2687, hw⟩ := hw
              obtain ⟨x2692, L2693, hx, w2694, hs2695⟩ := OwAll.turn w2690 hj
              obtain ⟨b2696, rfl, rfl, h2697⟩ := Ow.toInts w2694
              have hv2698 := hj
              have hx2699 := hx
              obtain ⟨z2700, hw⟩ := cW_mapA hx hw
              have hw := cW_noEr hw
              have hw : cW (F_law_c2  (x2692)) _ (fun _ => False) := hw
              unfold F_law_c2 at hw
              refine ⟨rfl, ?_⟩
              refine tyes_go ?_
              obtain ⟨K2703, hK2704, hw⟩ := cW_push hw
              refine ⟨_, rfl, _, rfl, ⟨_, (SqL.of h2697)⟩, fun D2705 n2706 => lc_list (K := K) (a := b2696) (xs := (x2692 : List Int).map V.int) (fun i2 H' => ∃ (G' : Hp) (acc2708 : (List Int)), Same G2679 G' ∧ Sep [] H H G' H' (D2705 :: (a2574 :: (a2594 :: (D2645 :: (L2576 ++ (L2596 ++ [])))))) ∧ H' a2574 = some (.lst (vs2575)) ∧ H' a2594 = some (.lst (vs2595)) ∧ H' D2645 = some (.lst ((acc2681 : (List Int)).map V.int)) ∧ H' D2705 = some (.lst ((acc2708 : (List Int)).map V.int)) ∧ OwAll G' H' L2576 (vs2575) ((v2571 : (List (List Int))).map (oL oI)) ∧ OwAll G' H' L2596 (vs2595) ((v2591 : (List (List Int))).map (oL oI)) ∧ Same H2676 H' ∧ cW (mapA (List.drop i2 (x2692)) acc2708 (fun x => noEr (F_law_c3  x))) K2703 (fun _ => False)) ?_ ?_ ?_ ?_⟩
              · generalize g2710 : upd H2676 D2705 _ = H2711
                obtain ⟨e2712, h2713⟩ := gen_new n2706 g2710
                have fr2714 := S2677.free n2706
                have S2715 := S2677.new n2706 e2712 h2713 fr2714
                have h2716 := (e2712 _ _ h2688)
                have h2717 := (e2712 _ _ h2689)
                have h2718 := (e2712 _ _ h2678)
                have w2719 : OwAll G2679 H2711 L2576 (vs2575) ((v2571 : (List (List Int))).map (oL oI)) := (OwAll.mono (Same.refl _) (keeps_same e2712) w2690)
                have w2720 : OwAll G2679 H2711 L2596 (vs2595) ((v2591 : (List (List Int))).map (oL oI)) := (OwAll.mono (Same.refl _) (keeps_same e2712) w2691)
                exact ⟨_, [], Same.refl _, (S2715.sub (all_cons (.head _) (all_cons (.tail _ (.tail _ (.head _))) (all_cons (.tail _ (.tail _ (.tail _ (.head _)))) (all_cons (.tail _ (.head _)) (all_app ((fun b hb => (.tail _ (.tail _ (.tail _ (.tail _ (List.mem_append_left _ hb)))))) : ∀ b ∈ L2576, b ∈ (D2705 :: (D2645 :: (a2574 :: (a2594 :: (L2576 ++ (L2596 ++ []))))))) (all_app ((fun b hb => (.tail _ (.tail _ (.tail _ (.tail _ (List.mem_append_right _ (List.mem_append_left _ hb))))))) : ∀ b ∈ L2596, b ∈ (D2705 :: (D2645 :: (a2574 :: (a2594 :: (L2576 ++ (L2596 ++ []))))))) all_nil))))))), h2716, h2717, h2718, h2713, w2719, w2720, e2712, hw⟩
              · intro i2 H2721 _ hw
                obtain ⟨G2724, acc2726, eG2725, S2722, h2733, h2734, h2735, h2723, w2736, w2737, eo2732, hw⟩ := hw
                have h2738 := (eo2732 _ _ h2697)
                exact (SqL.of h2738)
              · intro i2 x H2739 hj hw
                obtain ⟨G2742, acc2744, eG2743, S2740, h2751, h2752, h2753, h2741, w2754, w2755, eo2750, hw⟩ := hw
                obtain ⟨x2756, hx, rfl⟩ := map_get hj
                obtain ⟨z2757, hw⟩ := cW_mapA hx hw
                have hw := cW_noEr hw
                have hw : cW (F_law_c3  (x2756)) _ (fun _ => False) := hw
                unfold F_law_c3 at hw
                refine ⟨rfl, ?_⟩
                refine tyes_go ?_
                refine ⟨_, rfl, _, rfl, _, h2741, (app_lenM z2757), ?_⟩
                generalize g2759 : upd H2739 D2705 _ = H2760
                obtain ⟨x2761, h2762⟩ := gen_mut g2759
                have S2763 := S2740.mut1 x2761 (.head _) h2762
                have hw := cW_ok hw
                have h2764 := (x2761 _ _ h2751 (ne_of_none h2688 n2706))
                have h2765 := (x2761 _ _ h2752 (ne_of_none h2689 n2706))
                have h2766 := (x2761 _ _ h2753 (ne_of_none h2678 n2706))
                have w2767 : OwAll G2742 H2760 L2576 (vs2575) ((v2571 : (List (List Int))).map (oL oI)) := (OwAll.mono (Same.refl _) (keeps_mut x2761 ((there_ne (fun b_ hb_ => (S2677.ow b_ (((fun b hb => (.tail _ (.tail _ (.tail _ (List.mem_append_left _ hb))))) : ∀ b ∈ L2576, b ∈ (D2645 :: (a2574 :: (a2594 :: (L2576 ++ (L2596 ++ [])))))) b_ hb_)).2.1) n2706) : ∀ b ∈ L2576, b ≠ D2705)) w2754)
                have w2768 : OwAll G2742 H2760 L2596 (vs2595) ((v2591 : (List (List Int))).map (oL oI)) := (OwAll.mono (Same.refl _) (keeps_mut x2761 ((there_ne (fun b_ hb_ => (S2677.ow b_ (((fun b hb => (.tail _ (.tail _ (.tail _ (List.mem_append_right _ (List.mem_append_left _ hb)))))) : ∀ b ∈ L2596, b ∈ (D2645 :: (a2574 :: (a2594 :: (L2576 ++ (L2596 ++ [])))))) b_ hb_)).2.1) n2706) : ∀ b ∈ L2596, b ≠ D2705)) w2755)
                exact ⟨_, (acc2744 ++ [(if x2756 < 0 then -x2756 else x2756)]), eG2743, S2763, h2764, h2765, h2766, (snoc_map h2762), w2767, w2768, (same_mut eo2750 x2761 n2706), hw⟩
              intro H2769 hw
              obtain ⟨G2772, acc2774, eG2773, S2770, h2781, h2782, h2783, h2771, w2784, w2785, eo2780, hw⟩ := hw
              have hw := hK2704 _ (cW_mapA0 (by rw [List.length_map]) hw)
              have fr2786 := S2677.free n2706
              obtain ⟨g2787, hw⟩ := cW_grd hw
              refine ⟨_, _, rfl, (SqL.of h2771), g2787, _, h2783, (app_lenM z2700), ?_⟩
              generalize g2788 : upd H2769 D2645 _ = H2789
              obtain ⟨x2790, h2791⟩ := gen_mut g2788
              have S2792 := S2770.mut1 x2790 (.tail _ (.tail _ (.tail _ (.head _)))) h2791
              have hw := cW_ok hw
              have h2793 := (x2790 _ _ h2781 (ne_of_none h2641 n2646))
              have h2794 := (x2790 _ _ h2782 (ne_of_none h2638 n2646))
              have w2795 : OwAll G2772 H2789 L2576 (vs2575) ((v2571 : (List (List Int))).map (oL oI)) := (OwAll.mono (Same.refl _) (keeps_mut x2790 ((there_ne (fun b_ hb_ => (S2637.ow b_ (((fun b hb => (.tail _ (List.mem_append_right _ (.tail _ (List.mem_append_right _ (.tail _ (List.mem_append_left _ hb))))))) : ∀ b ∈ L2576, b ∈ (a2622 :: (L2624 ++ (a2594 :: (L2596 ++ (a2574 :: (L2576 ++ (p2560 :: [])))))))) b_ hb_)).2.1) n2646) : ∀ b ∈ L2576, b ≠ D2645)) w2784)
              have w2796 : OwAll G2772 H2789 L2596 (vs2595) ((v2591 : (List (List Int))).map (oL oI)) := (OwAll.mono (Same.refl _) (keeps_mut x2790 ((there_ne (fun b_ hb_ => (S2637.ow b_ (((fun b hb => (.tail _ (List.mem_append_right _ (.tail _ (List.mem_append_left _ hb))))) : ∀ b ∈ L2596, b ∈ (a2622 :: (L2624 ++ (a2594 :: (L2596 ++ (a2574 :: (L2576 ++ (p2560 :: [])))))))) b_ hb_)).2.1) n2646) : ∀ b ∈ L2596, b ≠ D2645)) w2785)
              exact ⟨_, (acc2681 ++ [(maxL (acc2774))]), (Same.trans eG2680 eG2773), (S2792.sub (all_cons (.tail _ (.tail _ (.tail _ (.head _)))) (all_cons (.tail _ (.head _)) (all_cons (.tail _ (.tail _ (.head _))) (all_app ((fun b hb => (.tail _ (.tail _ (.tail _ (.tail _ (List.mem_append_left _ hb)))))) : ∀ b ∈ L2576, b ∈ (D2705 :: (a2574 :: (a2594 :: (D2645 :: (L2576 ++ (L2596 ++ []))))))) (all_app ((fun b hb => (.tail _ (.tail _ (.tail _ (.tail _ (List.mem_append_right _ (List.mem_append_left _ hb))))))) : ∀ b ∈ L2596, b ∈ (D2705 :: (a2574 :: (a2594 :: (D2645 :: (L2576 ++ (L2596 ++ []))))))) all_nil)))))), h2793, h2794, (snoc_map h2791), w2795, w2796, (same_mut (Same.trans eo2687 eo2780) x2790 n2646), hw⟩
            intro H2797 hw
            obtain ⟨G2800, acc2802, eG2801, S2798, h2809, h2810, h2799, w2811, w2812, eo2808, hw⟩ := hw
            have hw := hK2644 _ (cW_mapA0 (by rw [(OwAll.rpA w2811 (encO_L encO_I) S2798.sG).len, List.length_map]) hw)
            have fr2813 := S2637.free n2646
            obtain ⟨g2814, hw⟩ := cW_grd hw
            refine ⟨_, _, rfl, (SqL.of h2799), g2814, ?_⟩
            have hw := cW_bnd hw
            obtain ⟨K2822, hK2823, hw⟩ := cW_push hw
            refine ⟨_, rfl, _, rfl, ⟨_, (SqL.of h2810)⟩, for_list (K := K) (a := a2594) (xs := vs2595) (fun i σ H' => ∃ (u2824 : Option V) (u2825 : Option V) (G' : Hp), σ = [some (V.ref a_script), some (V.int (x2553)), some (V.int ((v2557 + x2553))), some (V.int ((4 + (4 * ((v2557 + x2553) % 2))))), some (V.int ((itD ([1, 255, 4095, 1000000000]) ((((v2557 + x2553) / 2) % 4))))), some (V.ref a2574), some (V.str ((PyData.shown ((encL (encL PyData.int)) (v2571))))), some (V.ref a2594), some (V.int ((maxL (acc2802)))), u2824, u2825, u2545, u2546, u2547, u2548, none] ∧ Same G2800 G' ∧ Sep [] H H G' H' (a2574 :: (a2594 :: (L2576 ++ (L2596 ++ [])))) ∧ H' a2574 = some (.lst (vs2575)) ∧ H' a2594 = some (.lst (vs2595)) ∧ OwAll G' H' L2576 (vs2575) ((v2571 : (List (List Int))).map (oL oI)) ∧ OwAll G' H' L2596 (vs2595) ((v2591 : (List (List Int))).map (oL oI)) ∧ cW (forR (List.drop i (v2591)) () (fun s x => F_law_b4 ((maxL (acc2802)))  x)) K2822 EE) ?_ ?_ ?_ ?_⟩
            · exact ⟨_, _, _, rfl, (Same.refl _), (S2798.sub (all_cons (.tail _ (.head _)) (all_cons (.tail _ (.tail _ (.head _))) (all_app ((fun b hb => (.tail _ (.tail _ (.tail _ (List.mem_append_left _ hb))))) : ∀ b ∈ L2576, b ∈ (D2645 :: (a2574 :: (a2594 :: (L2576 ++ (L2596 ++ [])))))) (all_app ((fun b hb => (.tail _ (.tail _ (.tail _ (List.mem_append_right _ (List.mem_append_left _ hb)))))) : ∀ b ∈ L2596, b ∈ (D2645 :: (a2574 :: (a2594 :: (L2576 ++ (L2596 ++ [])))))) all_nil))))), h2809, h2810, w2811, w2812, hw⟩
            · intro i σ H2826 _ hw
              obtain ⟨u2824, u2825, G2832, rfl, eG2833, S2827, h2828, h2829, w2830, w2831, hw⟩ := hw
              exact (SqL.of h2829)
            · intro i x σ H2834 hj hw
              obtain ⟨u2824, u2825, G2840, rfl, eG2841, S2835, h2836, h2837, w2838, w2839, hw⟩ := hw
              obtain ⟨x2842, L2843, hx, w2844, hs2845⟩ := OwAll.turn w2839 hj
              obtain ⟨b2846, rfl, rfl, h2847⟩ := Ow.toInts w2844
              have hv2848 := hj
              have hx2849 := hx
              have hw := cW_forR hx hw
              have hw : cW (F_law_b4 ((maxL (acc2802)))  (x2842)) _ EE := hw
              unfold F_law_b4 at hw
              obtain ⟨K2850, hK2851, hw⟩ := cW_name hw
              obtain ⟨K2854, hK2855, hw⟩ := cW_push hw
              refine ⟨_, rfl, _, rfl, ⟨_, (SqL.of h2847)⟩, for_list (K := K) (a := b2846) (xs := (x2842 : List Int).map V.int) (fun i σ H' => ∃ (u2856 : Option V) (G' : Hp), σ = [some (V.ref a_script), some (V.int (x2553)), some (V.int ((v2557 + x2553))), some (V.int ((4 + (4 * ((v2557 + x2553) % 2))))), some (V.int ((itD ([1, 255, 4095, 1000000000]) ((((v2557 + x2553) / 2) % 4))))), some (V.ref a2574), some (V.str ((PyData.shown ((encL (encL PyData.int)) (v2571))))), some (V.ref a2594), some (V.int ((maxL (acc2802)))), some (V.ref b2846), u2856, u2545, u2546, u2547, u2548, none] ∧ Same G2840 G' ∧ Sep [] H H G' H' (a2574 :: (a2594 :: (L2576 ++ (L2596 ++ [])))) ∧ H' a2574 = some (.lst (vs2575)) ∧ H' a2594 = some (.lst (vs2595)) ∧ OwAll G' H' L2576 (vs2575) ((v2571 : (List (List Int))).map (oL oI)) ∧ OwAll G' H' L2596 (vs2595) ((v2591 : (List (List Int))).map (oL oI)) ∧ cW (forR (List.drop i (x2842)) () (fun s x => F_law_b5 ((maxL (acc2802)))  x)) K2854 EE) ?_ ?_ ?_ ?_⟩
              · exact ⟨_, _, rfl, (Same.refl _), S2835, h2836, h2837, w2838, w2839, hw⟩
              · intro i σ H2857 _ hw
                obtain ⟨u2856, G2863, rfl, eG2864, S2858, h2859, h2860, w2861, w2862, hw⟩ := hw
                obtain ⟨h2865, m2866⟩ := OwAll.pinInts w2862 hv2848 hx2849
                exact (SqL.of h2865)
              · intro i x σ H2867 hj hw
                obtain ⟨u2856, G2873, rfl, eG2874, S2868, h2869, h2870, w2871, w2872, hw⟩ := hw
                obtain ⟨x2875, hx, rfl⟩ := map_get hj
                have hw := cW_forR hx hw
                have hw : cW (F_law_b5 ((maxL (acc2802)))  (x2875)) _ EE := hw
                unfold F_law_b5 at hw
                obtain ⟨K2876, hK2877, hw⟩ := cW_name hw
                refine ⟨_, rfl, _, rfl, _, rfl, _, _, rfl, rfl, (.inl ⟨by decide, by decide⟩), _, _, rfl, rfl, _, _, rfl, rfl, _, rfl, ?_⟩
                refine iteD (fun c2879 => ?_) (fun c2879 => ?_)
                · have hw := cW_pos c2879 hw
                  have hw := cW_ok hw
                  have hw := hK2877 (.rt _) hw
                  have hw := hK2855 (.rt _) hw
                  have hw := cW_ok hw
                  have hw := hK2851 (.rt _) hw
                  have hw := hK2823 (.rt _) hw
                  have hw := cW_ok hw
                  have hw := hK2555 (.rt _) hw
                  have hw := hK2534 (.rt _) hw
                  have hw := cW_ok hw
                  exact eq_bl (k _) (hK0 _ hw).symm
                · have hw := cW_neg c2879 hw
                  have hw := cW_ok hw
                  have hw := hK2877 _ hw
                  exact ⟨_, _, rfl, eG2874, S2868, h2869, h2870, w2871, w2872, hw⟩
              · intro σ H2880 hw
                obtain ⟨u2856, G2886, rfl, eG2887, S2881, h2882, h2883, w2884, w2885, hw⟩ := hw
                have hw := cW_aftgo (hK2855 _ (cW_forR0 (by rw [List.length_map]) hw))
                have hw : cW (F_law_r5  ) _ EE := hw
                unfold F_law_r5 at hw
                have hw := cW_ok hw
                have hw := hK2851 _ hw
                exact ⟨_, _, _, rfl, (Same.trans eG2841 eG2887), S2881, h2882, h2883, w2884, w2885, hw⟩
            · intro σ H2888 hw
              obtain ⟨u2824, u2825, G2894, rfl, eG2895, S2889, h2890, h2891, w2892, w2893, hw⟩ := hw
              have hw := cW_aftgo (hK2823 _ (cW_forR0 (by rw [(OwAll.rpA w2893 (encO_L encO_I) S2889.sG).len, List.length_map]) hw))
              have hw : cW (F_law_r4 ((v2557 + x2553)) ((4 + (4 * ((v2557 + x2553) % 2)))) (v2571) ((PyData.shown ((encL (encL PyData.int)) (v2571)))) (v2591) ) _ EE := hw
              unfold F_law_r4 at hw
              refine ⟨_, rfl, rfl, rfl, G2894, _, _, rfl, S2889.sG, (Rp.hide_nil (rp_mk_list h2891 (OwAll.rpA w2893 (encO_L encO_I) S2889.sG))), cW_call hw (fun v2896 hw H2897 a2899 vs2900 L2901 G2902 n2903 nb2904 nd2905 e2898 eG2906 sG2907 hn2908 ga2909 gL2910 h2911 w2912 => ?_) (fun e he => (hE e he).elim)⟩
              have fr2913 := S2889.free n2903
              have S2914 : Sep _ _ _ _ H2897 (a2899 :: (L2901 ++ (a2574 :: (a2594 :: (L2576 ++ (L2596 ++ [])))))) := Sep.steptree S2889 e2898 eG2906 sG2907 hn2908 (a2899 :: L2901) (all_cons ⟨n2903, ga2909, some_ne h2911⟩ (fun b hb => ⟨nb2904 b hb, gL2910 b hb, OwAll.there w2912 b hb⟩))
              have h2915 := (e2898 _ _ h2890)
              have w2916 : OwAll G2902 H2897 L2576 (vs2575) ((v2571 : (List (List Int))).map (oL oI)) := (OwAll.mono eG2906 keeps_refl (OwAll.mono (Same.refl _) (keeps_same e2898) w2892))
              refine ⟨_, rfl, rfl, rfl, G2902, _, _, rfl, S2914.sG, (Rp.hide_nil (rp_mk_list h2915 (OwAll.rpA w2916 (encO_L encO_I) S2914.sG))), cW_call hw (fun v2917 hw H2918 a2920 vs2921 L2922 G2923 n2924 nb2925 nd2926 e2919 eG2927 sG2928 hn2929 ga2930 gL2931 h2932 w2933 => ?_) (fun e he => (hE e he).elim)⟩
              have fr2934 := S2914.free n2924
              have S2935 : Sep _ _ _ _ H2918 (a2920 :: (L2922 ++ (a2899 :: (L2901 ++ (a2574 :: (a2594 :: (L2576 ++ (L2596 ++ [])))))))) := Sep.steptree S2914 e2919 eG2927 sG2928 hn2929 (a2920 :: L2922) (all_cons ⟨n2924, ga2930, some_ne h2932⟩ (fun b hb => ⟨nb2925 b hb, gL2931 b hb, OwAll.there w2933 b hb⟩))
              have h2936 := (e2919 _ _ h2911)
              have w2937 : OwAll G2923 H2918 L2901 (vs2900) ((v2896 : (List (List Int))).map (oL oI)) := (OwAll.mono eG2927 keeps_refl (OwAll.mono (Same.refl _) (keeps_same e2919) w2912))
              refine ⟨_, rfl, _, rfl, rfl, rfl, G2923, _, _, _, rfl, S2935.sG, (Rp.hide_nil (rp_mk_list h2936 (OwAll.rpA w2937 (encO_L encO_I) S2935.sG))), cW_call hw (fun v2938 hw H2939 e2940 => ?_) (fun e he => (hE e he).elim)⟩
              have S2941 := S2935.same e2940
              refine ⟨_, rfl, ?_⟩
              refine iteBN (fun c2942 => ?_) (fun c2942 => ?_)
              · have hw := cW_negB c2942 hw
                refine iteT ?_
                have hw := cW_ok hw
                have hw := hK2555 (.rt _) hw
                have hw := hK2534 (.rt _) hw
                have hw := cW_ok hw
                exact eq_bl (k _) (hK0 _ hw).symm
              · have hw := cW_pos c2942 hw
                have h2943 := (e2940 _ _ h2936)
                have w2944 : OwAll G2923 H2939 L2901 (vs2900) ((v2896 : (List (List Int))).map (oL oI)) := (OwAll.mono (Same.refl _) (keeps_same e2940) w2937)
                have h2945 := (e2940 _ _ (e2919 _ _ h2915))
                have w2946 : OwAll G2923 H2939 L2576 (vs2575) ((v2571 : (List (List Int))).map (oL oI)) := (OwAll.mono eG2927 keeps_refl (OwAll.mono (Same.refl _) (keeps_same e2940) (OwAll.mono (Same.refl _) (keeps_same e2919) w2916)))
                refine ⟨_, rfl, _, rfl, _, _, (rp_mk_list h2943 (OwAll.rpA w2944 (encO_L encO_I) S2941.sG)), (rp_mk_list h2945 (OwAll.rpA w2946 (encO_L encO_I) S2941.sG)), _, rfl, ?_⟩
                refine iteN (fun c2947 => ?_) (fun c2947 => ?_)
                · have hw := cW_neg c2947 hw
                  refine iteT ?_
                  have hw := cW_ok hw
                  have hw := hK2555 (.rt _) hw
                  have hw := hK2534 (.rt _) hw
                  have hw := cW_ok hw
                  exact eq_bl (k _) (hK0 _ hw).symm
                · have hw := cW_pos c2947 hw
                  obtain ⟨g2948, hw⟩ := cW_grd hw
                  refine ⟨_, rfl, _, ((encL (encL PyData.int)) (v2571)), rfl, (rp_mk_list h2945 (OwAll.rpA w2946 (encO_L encO_I) S2941.sG)), g2948, _, rfl, rfl, _, rfl, ?_⟩
                  refine iteN (fun c2949 => ?_) (fun c2949 => ?_)
                  · have hw := cW_neg c2949 hw
                    have hw := cW_ok hw
                    have hw := hK2555 (.rt _) hw
                    have hw := hK2534 (.rt _) hw
                    have hw := cW_ok hw
                    exact eq_bl (k _) (hK0 _ hw).symm
                  · have hw := cW_pos c2949 hw
                    have h2950 := (e2940 _ _ h2932)
                    have w2951 : OwAll G2923 H2939 L2922 (vs2921) ((v2917 : (List (List Int))).map (oL oI)) := (OwAll.mono (Same.refl _) (keeps_same e2940) w2933)
                    refine ⟨_, rfl, _, rfl, rfl, rfl, G2923, _, _, _, rfl, S2941.sG, (Rp.hide_nil (rp_mk_list h2950 (OwAll.rpA w2951 (encO_L encO_I) S2941.sG))), cW_call hw (fun v2952 hw H2953 e2954 => ?_) (fun e he => (hE e he).elim)⟩
                    have S2955 := S2941.same e2954
                    refine ⟨_, rfl, ?_⟩
                    refine iteBN (fun c2956 => ?_) (fun c2956 => ?_)
                    · have hw := cW_negB c2956 hw
                      refine iteT ?_
                      have hw := cW_ok hw
                      have hw := hK2555 (.rt _) hw
                      have hw := hK2534 (.rt _) hw
                      have hw := cW_ok hw
                      exact eq_bl (k _) (hK0 _ hw).symm
                    · have hw := cW_pos c2956 hw
                      have h2957 := (e2954 _ _ h2950)
                      have w2958 : OwAll G2923 H2953 L2922 (vs2921) ((v2917 : (List (List Int))).map (oL oI)) := (OwAll.mono (Same.refl _) (keeps_same e2954) w2951)
                      refine ⟨_, rfl, rfl, rfl, G2923, _, _, rfl, S2955.sG, (Rp.hide_nil (rp_mk_list h2957 (OwAll.rpA w2958 (encO_L encO_I) S2955.sG))), cW_call hw (fun v2959 hw H2960 a2962 vs2963 L2964 G2965 n2966 nb2967 nd2968 e2961 eG2969 sG2970 hn2971 ga2972 gL2973 h2974 w2975 => ?_) (fun e he => (hE e he).elim)⟩
                      have fr2976 := S2955.free n2966
                      have S2977 : Sep _ _ _ _ H2960 (a2962 :: (L2964 ++ (a2920 :: (L2922 ++ (a2899 :: (L2901 ++ (a2574 :: (a2594 :: (L2576 ++ (L2596 ++ [])))))))))) := Sep.steptree S2955 e2961 eG2969 sG2970 hn2971 (a2962 :: L2964) (all_cons ⟨n2966, ga2972, some_ne h2974⟩ (fun b hb => ⟨nb2967 b hb, gL2973 b hb, OwAll.there w2975 b hb⟩))
                      have h2978 := (e2961 _ _ (e2954 _ _ h2945))
                      have w2979 : OwAll G2965 H2960 L2576 (vs2575) ((v2571 : (List (List Int))).map (oL oI)) := (OwAll.mono eG2969 keeps_refl (OwAll.mono (Same.refl _) (keeps_same e2961) (OwAll.mono (Same.refl _) (keeps_same e2954) w2946)))
                      refine ⟨_, rfl, _, _, (rp_mk_list h2974 (OwAll.rpA w2975 (encO_L encO_I) S2977.sG)), (rp_mk_list h2978 (OwAll.rpA w2979 (encO_L encO_I) S2977.sG)), _, rfl, ?_⟩
                      refine iteN (fun c2980 => ?_) (fun c2980 => ?_)
                      · have hw := cW_neg c2980 hw
                        have hw := cW_ok hw
                        have hw := hK2555 (.rt _) hw
                        have hw := hK2534 (.rt _) hw
                        have hw := cW_ok hw
                        exact eq_bl (k _) (hK0 _ hw).symm
                      · have hw := cW_pos c2980 hw
                        obtain ⟨K2982, hK2983, hw⟩ := cW_push hw
                        refine ⟨_, rfl, _, rfl, ⟨_, (SqL.of h2978)⟩, fun D2984 n2985 => lc_list (K := K) (a := a2574) (xs := vs2575) (fun i H' => ∃ (G' : Hp) (acc2987 : (List (List Int))) (vs2988 : List V) (L2986 : List Addr), Same G2965 G' ∧ Sep [] H H G' H' (D2984 :: (L2986 ++ (a2574 :: (a2594 :: (a2899 :: (a2920 :: (L2576 ++ (L2596 ++ (L2901 ++ (L2922 ++ [])))))))))) ∧ H' a2574 = some (.lst (vs2575)) ∧ H' a2594 = some (.lst (vs2595)) ∧ H' a2899 = some (.lst (vs2900)) ∧ H' a2920 = some (.lst (vs2921)) ∧ H' D2984 = some (.lst vs2988) ∧ OwAll G' H' L2576 (vs2575) ((v2571 : (List (List Int))).map (oL oI)) ∧ OwAll G' H' L2596 (vs2595) ((v2591 : (List (List Int))).map (oL oI)) ∧ OwAll G' H' L2901 (vs2900) ((v2896 : (List (List Int))).map (oL oI)) ∧ OwAll G' H' L2922 (vs2921) ((v2917 : (List (List Int))).map (oL oI)) ∧ OwAll G' H' L2986 vs2988 ((acc2987 : (List (List Int))).map (oL oI)) ∧ (∀ b ∈ L2986, H2960 b = none) ∧ (∀ b ∈ L2986, b ≠ D2984) ∧ Same H2960 H' ∧ cW (mapA (List.drop i (v2571)) acc2987 (fun x => noEr (F_law_c6  x))) K2982 EE) ?_ ?_ ?_ ?_⟩
                        · generalize g2989 : upd H2960 D2984 _ = H2990
                          obtain ⟨e2991, h2992⟩ := gen_new n2985 g2989
                          have fr2993 := S2977.free n2985
                          have S2994 := S2977.new n2985 e2991 h2992 fr2993
                          have h2995 := (e2991 _ _ h2978)
                          have h2996 := (e2991 _ _ (e2961 _ _ (e2954 _ _ (e2940 _ _ (e2919 _ _ (e2898 _ _ h2891))))))
                          have h2997 := (e2991 _ _ (e2961 _ _ (e2954 _ _ h2943)))
                          have h2998 := (e2991 _ _ (e2961 _ _ h2957))
                          have w2999 : OwAll G2965 H2990 L2576 (vs2575) ((v2571 : (List (List Int))).map (oL oI)) := (OwAll.mono (Same.refl _) (keeps_same e2991) w2979)
                          have w3000 : OwAll G2965 H2990 L2596 (vs2595) ((v2591 : (List (List Int))).map (oL oI)) := (OwAll.mono (Same.trans (Same.trans eG2906 eG2927) eG2969) keeps_refl (OwAll.mono (Same.refl _) (keeps_same e2991) (OwAll.mono (Same.refl _) (keeps_same e2961) (OwAll.mono (Same.refl _) (keeps_same e2954) (OwAll.mono (Same.refl _) (keeps_same e2940) (OwAll.mono (Same.refl _) (keeps_same e2919) (OwAll.mono (Same.refl _) (keeps_same e2898) w2893)))))))
                          have w3001 : OwAll G2965 H2990 L2901 (vs2900) ((v2896 : (List (List Int))).map (oL oI)) := (OwAll.mono eG2969 keeps_refl (OwAll.mono (Same.refl _) (keeps_same e2991) (OwAll.mono (Same.refl _) (keeps_same e2961) (OwAll.mono (Same.refl _) (keeps_same e2954) w2944))))
                          have w3002 : OwAll G2965 H2990 L2922 (vs2921) ((v2917 : (List (List Int))).map (oL oI)) := (OwAll.mono eG2969 keeps_refl (OwAll.mono (Same.refl _) (keeps_same e2991) (OwAll.mono (Same.refl _) (keeps_same e2961) w2958)))
                          exact ⟨_, [], [], [], Same.refl _, (S2994.sub (all_cons (.head _) (all_app (L := []) all_nil (all_cons (.tail _ (.tail _ (List.mem_append_right _ (.tail _ (List.mem_append_right _ (.tail _ (List.mem_append_right _ (.head _)))))))) (all_cons (.tail _ (.tail _ (List.mem_append_right _ (.tail _ (List.mem_append_right _ (.tail _ (List.mem_append_right _ (.tail _ (.head _))))))))) (all_cons (.tail _ (.tail _ (List.mem_append_right _ (.tail _ (List.mem_append_right _ (.head _)))))) (all_cons (.tail _ (.tail _ (List.mem_append_right _ (.head _)))) (all_app ((fun b hb => (.tail _ (.tail _ (List.mem_append_right _ (.tail _ (List.mem_append_right _ (.tail _ (List.mem_append_right _ (.tail _ (.tail _ (List.mem_append_left _ hb))))))))))) : ∀ b ∈ L2576, b ∈ (D2984 :: (a2962 :: (L2964 ++ (a2920 :: (L2922 ++ (a2899 :: (L2901 ++ (a2574 :: (a2594 :: (L2576 ++ (L2596 ++ [])))))))))))) (all_app ((fun b hb => (.tail _ (.tail _ (List.mem_append_right _ (.tail _ (List.mem_append_right _ (.tail _ (List.mem_append_right _ (.tail _ (.tail _ (List.mem_append_right _ (List.mem_append_left _ hb)))))))))))) : ∀ b ∈ L2596, b ∈ (D2984 :: (a2962 :: (L2964 ++ (a2920 :: (L2922 ++ (a2899 :: (L2901 ++ (a2574 :: (a2594 :: (L2576 ++ (L2596 ++ [])))))))))))) (all_app ((fun b hb => (.tail _ (.tail _ (List.mem_append_right _ (.tail _ (List.mem_append_right _ (.tail _ (List.mem_append_left _ hb)))))))) : ∀ b ∈ L2901, b ∈ (D2984 :: (a2962 :: (L2964 ++ (a2920 :: (L2922 ++ (a2899 :: (L2901 ++ (a2574 :: (a2594 :: (L2576 ++ (L2596 ++ [])))))))))))) (all_app ((fun b hb => (.tail _ (.tail _ (List.mem_append_right _ (.tail _ (List.mem_append_left _ hb)))))) : ∀ b ∈ L2922, b ∈ (D2984 :: (a2962 :: (L2964 ++ (a2920 :: (L2922 ++ (a2899 :: (L2901 ++ (a2574 :: (a2594 :: (L2576 ++ (L2596 ++ [])))))))))))) all_nil))))))))))), h2995, h2996, h2997, h2998, h2992, w2999, w3000, w3001, w3002, OwAll.nil, all_nil, all_nil, e2991, hw⟩
                        · intro i H3003 _ hw
                          obtain ⟨G3006, acc3008, vs3009, L3011, eG3007, S3004, h3015, h3016, h3017, h3018, h3005, w3019, w3020, w3021, w3022, d3010, nb3012, nd3013, eo3014, hw⟩ := hw
                          exact (SqL.of h3015)
                        · intro i x H3023 hj hw
                          obtain ⟨G3026, acc3028, vs3029, L3031, eG3027, S3024, h3035, h3036, h3037, h3038, h3025, w3039, w3040, w3041, w3042, d3030, nb3032, nd3033, eo3034, hw⟩ := hw
                          obtain ⟨x3043, L3044, hx, w3045, hs3046⟩ := OwAll.turn w3039 hj
                          obtain ⟨b3047, rfl, rfl, h3048⟩ := Ow.toInts w3045
                          have hv3049 := hj
                          have hx3050 := hx
                          obtain ⟨z3051, hw⟩ := cW_mapA hx hw
                          have hw := cW_noEr hw
                          have hw : cW (F_law_c6  (x3043)) _ (fun _ => False) := hw
                          unfold F_law_c6 at hw
                          refine ⟨rfl, ?_⟩
                          refine tyes_go ?_
                          refine ⟨_, rfl, _, _, rfl, (SqL.of h3048), fun p3053 n3054 => ?_⟩
                          generalize g3055 : upd H3023 p3053 _ = H3056
                          obtain ⟨e3057, h3058⟩ := gen_new n3054 g3055
                          have h3059 : H3056 p3053 = some (.lst ((x3043 : (List Int)).map V.int)) := h3058
                          have fr3060 := S3024.free n3054
                          have S3061 := S3024.new n3054 e3057 h3059 fr3060
                          have w3062 : OwAll G3026 H3056 L3031 (vs3029) ((acc3028 : (List (List Int))).map (oL oI)) := (OwAll.mono (Same.refl _) (keeps_same e3057) d3030)
                          have h3063 := (e3057 _ _ h3025)
                          refine ⟨_, h3063, (app_len (OwAll.rpA w3062 (encO_L encO_I) S3061.sG) z3051), ?_⟩
                          generalize g3064 : upd H3056 D2984 _ = H3065
                          obtain ⟨x3066, h3067⟩ := gen_mut g3064
                          have S3068 := S3061.mut1 x3066 (.tail _ (.head _)) h3067
                          have hw := cW_ok hw
                          have h3069 := (x3066 _ _ (e3057 _ _ h3035) (ne_of_none h2978 n2985))
                          have h3070 := (x3066 _ _ (e3057 _ _ h3036) (ne_of_none (e2961 _ _ (e2954 _ _ (e2940 _ _ (e2919 _ _ (e2898 _ _ h2891))))) n2985))
                          have h3071 := (x3066 _ _ (e3057 _ _ h3037) (ne_of_none (e2961 _ _ (e2954 _ _ h2943)) n2985))
                          have h3072 := (x3066 _ _ (e3057 _ _ h3038) (ne_of_none (e2961 _ _ h2957) n2985))
                          have w3073 : OwAll G3026 H3065 L2576 (vs2575) ((v2571 : (List (List Int))).map (oL oI)) := (OwAll.mono (Same.refl _) (keeps_mut x3066 ((there_ne (fun b_ hb_ => (S2977.ow b_ (((fun b hb => (.tail _ (List.mem_append_right _ (.tail _ (List.mem_append_right _ (.tail _ (List.mem_append_right _ (.tail _ (.tail _ (List.mem_append_left _ hb)))))))))) : ∀ b ∈ L2576, b ∈ (a2962 :: (L2964 ++ (a2920 :: (L2922 ++ (a2899 :: (L2901 ++ (a2574 :: (a2594 :: (L2576 ++ (L2596 ++ []))))))))))) b_ hb_)).2.1) n2985) : ∀ b ∈ L2576, b ≠ D2984)) (OwAll.mono (Same.refl _) (keeps_same e3057) w3039))
                          have w3074 : OwAll G3026 H3065 L2596 (vs2595) ((v2591 : (List (List Int))).map (oL oI)) := (OwAll.mono (Same.refl _) (keeps_mut x3066 ((there_ne (fun b_ hb_ => (S2977.ow b_ (((fun b hb => (.tail _ (List.mem_append_right _ (.tail _ (List.mem_append_right _ (.tail _ (List.mem_append_right _ (.tail _ (.tail _ (List.mem_append_right _ (List.mem_append_left _ hb))))))))))) : ∀ b ∈ L2596, b ∈ (a2962 :: (L2964 ++ (a2920 :: (L2922 ++ (a2899 :: (L2901 ++ (a2574 :: (a2594 :: (L2576 ++ (L2596 ++ []))))))))))) b_ hb_)).2.1) n2985) : ∀ b ∈ L2596, b ≠ D2984)) (OwAll.mono (Same.refl _) (keeps_same e3057) w3040))
                          have w3075 : OwAll G3026 H3065 L2901 (vs2900) ((v2896 : (List (List Int))).map (oL oI)) := (OwAll.mono (Same.refl _) (keeps_mut x3066 ((there_ne (fun b_ hb_ => (S2977.ow b_ (((fun b hb => (.tail _ (List.mem_append_right _ (.tail _ (List.mem_append_right _ (.tail _ (List.mem_append_left _ hb))))))) : ∀ b ∈ L2901, b ∈ (a2962 :: (L2964 ++ (a2920 :: (L2922 ++ (a2899 :: (L2901 ++ (a2574 :: (a2594 :: (L2576 ++ (L2596 ++ []))))))))))) b_ hb_)).2.1) n2985) : ∀ b ∈ L2901, b ≠ D2984)) (OwAll.mono (Same.refl _) (keeps_same e3057) w3041))
                          have w3076 : OwAll G3026 H3065 L2922 (vs2921) ((v2917 : (List (List Int))).map (oL oI)) := (OwAll.mono (Same.refl _) (keeps_mut x3066 ((there_ne (fun b_ hb_ => (S2977.ow b_ (((fun b hb => (.tail _ (List.mem_append_right _ (.tail _ (List.mem_append_left _ hb))))) : ∀ b ∈ L2922, b ∈ (a2962 :: (L2964 ++ (a2920 :: (L2922 ++ (a2899 :: (L2901 ++ (a2574 :: (a2594 :: (L2576 ++ (L2596 ++ []))))))))))) b_ hb_)).2.1) n2985) : ∀ b ∈ L2922, b ≠ D2984)) (OwAll.mono (Same.refl _) (keeps_same e3057) w3042))
                          exact ⟨_, (acc3028 ++ [x3043]), _, (L3031 ++ (p3053 :: ([] : List Addr))), eG3027, (S3068.sub (all_cons (.tail _ (.head _)) (all_app (all_app ((fun b hb => (.tail _ (.tail _ (List.mem_append_left _ hb)))) : ∀ b ∈ L3031, b ∈ (p3053 :: (D2984 :: (L3031 ++ (a2574 :: (a2594 :: (a2899 :: (a2920 :: (L2576 ++ (L2596 ++ (L2901 ++ (L2922 ++ [])))))))))))) (all_cons (.head _) all_nil)) (all_cons (.tail _ (.tail _ (List.mem_append_right _ (.head _)))) (all_cons (.tail _ (.tail _ (List.mem_append_right _ (.tail _ (.head _))))) (all_cons (.tail _ (.tail _ (List.mem_append_right _ (.tail _ (.tail _ (.head _)))))) (all_cons (.tail _ (.tail _ (List.mem_append_right _ (.tail _ (.tail _ (.tail _ (.head _))))))) (all_app ((fun b hb => (.tail _ (.tail _ (List.mem_append_right _ (.tail _ (.tail _ (.tail _ (.tail _ (List.mem_append_left _ hb))))))))) : ∀ b ∈ L2576, b ∈ (p3053 :: (D2984 :: (L3031 ++ (a2574 :: (a2594 :: (a2899 :: (a2920 :: (L2576 ++ (L2596 ++ (L2901 ++ (L2922 ++ [])))))))))))) (all_app ((fun b hb => (.tail _ (.tail _ (List.mem_append_right _ (.tail _ (.tail _ (.tail _ (.tail _ (List.mem_append_right _ (List.mem_append_left _ hb)))))))))) : ∀ b ∈ L2596, b ∈ (p3053 :: (D2984 :: (L3031 ++ (a2574 :: (a2594 :: (a2899 :: (a2920 :: (L2576 ++ (L2596 ++ (L2901 ++ (L2922 ++ [])))))))))))) (all_app ((fun b hb => (.tail _ (.tail _ (List.mem_append_right _ (.tail _ (.tail _ (.tail _ (.tail _ (List.mem_append_right _ (List.mem_append_right _ (List.mem_append_left _ hb))))))))))) : ∀ b ∈ L2901, b ∈ (p3053 :: (D2984 :: (L3031 ++ (a2574 :: (a2594 :: (a2899 :: (a2920 :: (L2576 ++ (L2596 ++ (L2901 ++ (L2922 ++ [])))))))))))) (all_app ((fun b hb => (.tail _ (.tail _ (List.mem_append_right _ (.tail _ (.tail _ (.tail _ (.tail _ (List.mem_append_right _ (List.mem_append_right _ (List.mem_append_right _ (List.mem_append_left _ hb)))))))))))) : ∀ b ∈ L2922, b ∈ (p3053 :: (D2984 :: (L3031 ++ (a2574 :: (a2594 :: (a2899 :: (a2920 :: (L2576 ++ (L2596 ++ (L2901 ++ (L2922 ++ [])))))))))))) all_nil))))))))))), h3069, h3070, h3071, h3072, h3067, w3073, w3074, w3075, w3076, (OwAll.mono (Same.refl _) (keeps_mut x3066 ((all_app nd3033 (all_cons (ne_of_none h3025 n3054).symm all_nil)) : ∀ b ∈ (L3031 ++ (p3053 :: ([] : List Addr))), b ≠ D2984)) (OwAll.snocM w3062 (Ow.ints h3059) ((fun b hb => (nm_cons ((there_ne (fun b_ hb_ => (S3024.ow b_ (((fun b hb => (.tail _ (List.mem_append_left _ hb))) : ∀ b ∈ L3031, b ∈ (D2984 :: (L3031 ++ (a2574 :: (a2594 :: (a2899 :: (a2920 :: (L2576 ++ (L2596 ++ (L2901 ++ (L2922 ++ []))))))))))) b_ hb_)).2.1) n3054) b hb) nm_nil)) : ∀ b ∈ L3031, b ∉ (p3053 :: ([] : List Addr))))), ((all_app nb3032 (all_cons (none_of_same eo3034 n3054) all_nil)) : ∀ b ∈ (L3031 ++ (p3053 :: ([] : List Addr))), H2960 b = none), ((all_app nd3033 (all_cons (ne_of_none h3025 n3054).symm all_nil)) : ∀ b ∈ (L3031 ++ (p3053 :: ([] : List Addr))), b ≠ D2984), (same_mut (Same.trans eo3034 e3057) x3066 n2985), hw⟩
                        intro H3077 hw
                        obtain ⟨G3080, acc3082, vs3083, L3085, eG3081, S3078, h3089, h3090, h3091, h3092, h3079, w3093, w3094, w3095, w3096, d3084, nb3086, nd3087, eo3088, hw⟩ := hw
                        have hw := hK2983 _ (cW_mapA0 (by rw [(OwAll.rpA w3093 (encO_L encO_I) S3078.sG).len, List.length_map]) hw)
                        have fr3097 := S2977.free n2985
                        refine ⟨fun σ H' => ∃ (bad_3103 : (List (List Int))) (vs3104 : List V) (L3105 : List Addr) (G' : Hp), σ = [some (V.ref a_script), some (V.int (x2553)), some (V.int ((v2557 + x2553))), some (V.int ((4 + (4 * ((v2557 + x2553) % 2))))), some (V.int ((itD ([1, 255, 4095, 1000000000]) ((((v2557 + x2553) / 2) % 4))))), some (V.ref a2574), some (V.str ((PyData.shown ((encL (encL PyData.int)) (v2571))))), some (V.ref a2594), some (V.int ((maxL (acc2802)))), u2824, u2825, some (V.ref a2899), some (V.ref a2920), some (V.ref D2984), u2548, none] ∧ Same G3080 G' ∧ Sep [] H H G' H' (a2574 :: (a2594 :: (a2899 :: (a2920 :: (D2984 :: (L2576 ++ (L2596 ++ (L2901 ++ (L2922 ++ (L3105 ++ [])))))))))) ∧ H' a2574 = some (.lst (vs2575)) ∧ H' a2594 = some (.lst (vs2595)) ∧ H' a2899 = some (.lst (vs2900)) ∧ H' a2920 = some (.lst (vs2921)) ∧ H' D2984 = some (.lst (vs3104)) ∧ (∀ b ∈ L3105, b ≠ a2574) ∧ (∀ b ∈ L3105, b ≠ a2594) ∧ (∀ b ∈ L3105, b ≠ a2899) ∧ (∀ b ∈ L3105, b ≠ a2920) ∧ (∀ b ∈ L3105, b ≠ D2984) ∧ (∀ b ∈ L3105, b ∉ L2576) ∧ (∀ b ∈ L3105, b ∉ L2596) ∧ (∀ b ∈ L3105, b ∉ L2901) ∧ (∀ b ∈ L3105, b ∉ L2922) ∧ OwAll G' H' L2576 (vs2575) ((v2571 : (List (List Int))).map (oL oI)) ∧ OwAll G' H' L2596 (vs2595) ((v2591 : (List (List Int))).map (oL oI)) ∧ OwAll G' H' L2901 (vs2900) ((v2896 : (List (List Int))).map (oL oI)) ∧ OwAll G' H' L2922 (vs2921) ((v2917 : (List (List Int))).map (oL oI)) ∧ OwAll G' H' L3105 (vs3104) ((bad_3103 : (List (List Int))).map (oL oI)) ∧ cW (F_law_k7 ((v2557 + x2553)) ((4 + (4 * ((v2557 + x2553) % 2)))) (v2571) (v2917) bad_3103) K2554 EE, ?_, ?_⟩
                        · obtain ⟨K3106, hK3107, hw⟩ := cW_push hw
                          refine ⟨_, rfl, _, _, rfl, rfl, (divW_lit (by decide) (by decide)), _, _, rfl, rfl, (show (0 : Int) < 3 by decide), _, _, rfl, rfl, _, rfl, ?_⟩
                          refine iteD (fun c3108 => ?_) (fun c3108 => ?_)
                          · have hw := cW_pos c3108 hw
                            refine ⟨_, rfl, (.inl ⟨rfl, _, SqL.of h3079⟩), (by show 1 ≤ sizeLine; decide), fun p3109 n3110 => ?_⟩
                            generalize g3111 : upd H3077 p3109 _ = H3112
                            obtain ⟨e3113, h3114⟩ := gen_new n3110 g3111
                            have h3115 : H3112 p3109 = some (.lst (([0] : (List Int)).map V.int)) := h3114
                            have fr3116 := S3078.free n3110
                            have S3117 := S3078.new n3110 e3113 h3115 fr3116
                            obtain ⟨g3118, hw⟩ := cW_grd hw
                            refine ⟨_, rfl, _, _, _, rfl, rfl, h3115, g3118.1, g3118.2.1, (rep_lenM g3118.2.2), fun p3119 n3120 => ?_⟩
                            generalize g3121 : upd H3112 p3119 _ = H3122
                            obtain ⟨e3123, h3124⟩ := gen_new n3120 g3121
                            have h3125 : H3122 p3119 = some (.lst ((repL ([0]) ((4 + (4 * ((v2557 + x2553) % 2)))) : (List Int)).map V.int)) := rep_map h3124
                            have fr3126 := S3117.free n3120
                            have S3127 := S3117.new n3120 e3123 h3125 fr3126
                            obtain ⟨g3128, hw⟩ := cW_grd hw
                            have h3129 := (e3123 _ _ (e3113 _ _ h3079))
                            have w3130 : OwAll G3080 H3122 L3085 (vs3083) ((acc3082 : (List (List Int))).map (oL oI)) := (OwAll.mono (Same.refl _) (keeps_same e3123) (OwAll.mono (Same.refl _) (keeps_same e3113) d3084))
                            refine ⟨_, _, _, rfl, rfl, h3129, (app_len (OwAll.rpA w3130 (encO_L encO_I) S3127.sG) g3128), ?_⟩
                            generalize g3131 : upd H3122 D2984 _ = H3132
                            obtain ⟨x3133, h3134⟩ := gen_mut g3131
                            have h3135 : H3132 D2984 = some (.lst (vs3083 ++ [V.ref p3119])) := h3134
                            have S3136 := S3127.mut1 x3133 (.tail _ (.tail _ (.head _))) h3135
                            have w3137 : OwAll G3080 H3132 (L3085 ++ (p3119 :: ([] : List Addr))) (vs3083 ++ [V.ref p3119]) (((acc3082) ++ [repL ([0]) ((4 + (4 * ((v2557 + x2553) % 2))))] : (List (List Int))).map (oL oI)) := OwAll.mono (Same.refl _) (keeps_mut x3133 ((all_app nd3087 (all_cons (ne_of_none (e3113 _ _ h3079) n3120).symm all_nil)) : ∀ b ∈ (L3085 ++ (p3119 :: ([] : List Addr))), b ≠ D2984)) (OwAll.snocM w3130 (Ow.ints h3125) ((fun b hb => (nm_cons ((there_ne (fun b_ hb_ => (S3117.ow b_ (((fun b hb => (.tail _ (.tail _ (List.mem_append_left _ hb)))) : ∀ b ∈ L3085, b ∈ (p3109 :: (D2984 :: (L3085 ++ (a2574 :: (a2594 :: (a2899 :: (a2920 :: (L2576 ++ (L2596 ++ (L2901 ++ (L2922 ++ [])))))))))))) b_ hb_)).2.1) n3120) b hb) nm_nil)) : ∀ b ∈ L3085, b ∉ (p3119 :: ([] : List Addr))))
                            have hw := cW_bnd hw
                            have hw := cW_ok hw
                            have hw := hK3107 _ hw
                            have h3139 := (x3133 _ _ (e3123 _ _ (e3113 _ _ h3089)) (ne_of_none h2978 n2985))
                            have h3140 := (x3133 _ _ (e3123 _ _ (e3113 _ _ h3090)) (ne_of_none (e2961 _ _ (e2954 _ _ (e2940 _ _ (e2919 _ _ (e2898 _ _ h2891))))) n2985))
                            have h3141 := (x3133 _ _ (e3123 _ _ (e3113 _ _ h3091)) (ne_of_none (e2961 _ _ (e2954 _ _ h2943)) n2985))
                            have h3142 := (x3133 _ _ (e3123 _ _ (e3113 _ _ h3092)) (ne_of_none (e2961 _ _ h2957) n2985))
                            have w3143 : OwAll G3080 H3132 L2576 (vs2575) ((v2571 : (List (List Int))).map (oL oI)) := (OwAll.mono (Same.refl _) (keeps_mut x3133 ((there_ne (fun b_ hb_ => (S2977.ow b_ (((fun b hb => (.tail _ (List.mem_append_right _ (.tail _ (List.mem_append_right _ (.tail _ (List.mem_append_right _ (.tail _ (.tail _ (List.mem_append_left _ hb)))))))))) : ∀ b ∈ L2576, b ∈ (a2962 :: (L2964 ++ (a2920 :: (L2922 ++ (a2899 :: (L2901 ++ (a2574 :: (a2594 :: (L2576 ++ (L2596 ++ []))))))))))) b_ hb_)).2.1) n2985) : ∀ b ∈ L2576, b ≠ D2984)) (OwAll.mono (Same.refl _) (keeps_same e3123) (OwAll.mono (Same.refl _) (keeps_same e3113) w3093)))
                            have w3144 : OwAll G3080 H3132 L2596 (vs2595) ((v2591 : (List (List Int))).map (oL oI)) := (OwAll.mono (Same.refl _) (keeps_mut x3133 ((there_ne (fun b_ hb_ => (S2977.ow b_ (((fun b hb => (.tail _ (List.mem_append_right _ (.tail _ (List.mem_append_right _ (.tail _ (List.mem_append_right _ (.tail _ (.tail _ (List.mem_append_right _ (List.mem_append_left _ hb))))))))))) : ∀ b ∈ L2596, b ∈ (a2962 :: (L2964 ++ (a2920 :: (L2922 ++ (a2899 :: (L2901 ++ (a2574 :: (a2594 :: (L2576 ++ (L2596 ++ []))))))))))) b_ hb_)).2.1) n2985) : ∀ b ∈ L2596, b ≠ D2984)) (OwAll.mono (Same.refl _) (keeps_same e3123) (OwAll.mono (Same.refl _) (keeps_same e3113) w3094)))
                            have w3145 : OwAll G3080 H3132 L2901 (vs2900) ((v2896 : (List (List Int))).map (oL oI)) := (OwAll.mono (Same.refl _) (keeps_mut x3133 ((there_ne (fun b_ hb_ => (S2977.ow b_ (((fun b hb => (.tail _ (List.mem_append_right _ (.tail _ (List.mem_append_right _ (.tail _ (List.mem_append_left _ hb))))))) : ∀ b ∈ L2901, b ∈ (a2962 :: (L2964 ++ (a2920 :: (L2922 ++ (a2899 :: (L2901 ++ (a2574 :: (a2594 :: (L2576 ++ (L2596 ++ []))))))))))) b_ hb_)).2.1) n2985) : ∀ b ∈ L2901, b ≠ D2984)) (OwAll.mono (Same.refl _) (keeps_same e3123) (OwAll.mono (Same.refl _) (keeps_same e3113) w3095)))
                            have w3146 : OwAll G3080 H3132 L2922 (vs2921) ((v2917 : (List (List Int))).map (oL oI)) := (OwAll.mono (Same.refl _) (keeps_mut x3133 ((there_ne (fun b_ hb_ => (S2977.ow b_ (((fun b hb => (.tail _ (List.mem_append_right _ (.tail _ (List.mem_append_left _ hb))))) : ∀ b ∈ L2922, b ∈ (a2962 :: (L2964 ++ (a2920 :: (L2922 ++ (a2899 :: (L2901 ++ (a2574 :: (a2594 :: (L2576 ++ (L2596 ++ []))))))))))) b_ hb_)).2.1) n2985) : ∀ b ∈ L2922, b ≠ D2984)) (OwAll.mono (Same.refl _) (keeps_same e3123) (OwAll.mono (Same.refl _) (keeps_same e3113) w3096)))
                            exact ⟨((acc3082) ++ [repL ([0]) ((4 + (4 * ((v2557 + x2553) % 2))))]), (vs3083 ++ [V.ref p3119]), (L3085 ++ (p3119 :: ([] : List Addr))), _, rfl, (Same.refl _), (S3136.sub (all_cons (.tail _ (.tail _ (.tail _ (List.mem_append_right _ (.head _))))) (all_cons (.tail _ (.tail _ (.tail _ (List.mem_append_right _ (.tail _ (.head _)))))) (all_cons (.tail _ (.tail _ (.tail _ (List.mem_append_right _ (.tail _ (.tail _ (.head _))))))) (all_cons (.tail _ (.tail _ (.tail _ (List.mem_append_right _ (.tail _ (.tail _ (.tail _ (.head _)))))))) (all_cons (.tail _ (.tail _ (.head _))) (all_app ((fun b hb => (.tail _ (.tail _ (.tail _ (List.mem_append_right _ (.tail _ (.tail _ (.tail _ (.tail _ (List.mem_append_left _ hb)))))))))) : ∀ b ∈ L2576, b ∈ (p3119 :: (p3109 :: (D2984 :: (L3085 ++ (a2574 :: (a2594 :: (a2899 :: (a2920 :: (L2576 ++ (L2596 ++ (L2901 ++ (L2922 ++ []))))))))))))) (all_app ((fun b hb => (.tail _ (.tail _ (.tail _ (List.mem_append_right _ (.tail _ (.tail _ (.tail _ (.tail _ (List.mem_append_right _ (List.mem_append_left _ hb))))))))))) : ∀ b ∈ L2596, b ∈ (p3119 :: (p3109 :: (D2984 :: (L3085 ++ (a2574 :: (a2594 :: (a2899 :: (a2920 :: (L2576 ++ (L2596 ++ (L2901 ++ (L2922 ++ []))))))))))))) (all_app ((fun b hb => (.tail _ (.tail _ (.tail _ (List.mem_append_right _ (.tail _ (.tail _ (.tail _ (.tail _ (List.mem_append_right _ (List.mem_append_right _ (List.mem_append_left _ hb)))))))))))) : ∀ b ∈ L2901, b ∈ (p3119 :: (p3109 :: (D2984 :: (L3085 ++ (a2574 :: (a2594 :: (a2899 :: (a2920 :: (L2576 ++ (L2596 ++ (L2901 ++ (L2922 ++ []))))))))))))) (all_app ((fun b hb => (.tail _ (.tail _ (.tail _ (List.mem_append_right _ (.tail _ (.tail _ (.tail _ (.tail _ (List.mem_append_right _ (List.mem_append_right _ (List.mem_append_right _ (List.mem_append_left _ hb))))))))))))) : ∀ b ∈ L2922, b ∈ (p3119 :: (p3109 :: (D2984 :: (L3085 ++ (a2574 :: (a2594 :: (a2899 :: (a2920 :: (L2576 ++ (L2596 ++ (L2901 ++ (L2922 ++ []))))))))))))) (all_app (all_app ((fun b hb => (.tail _ (.tail _ (.tail _ (List.mem_append_left _ hb))))) : ∀ b ∈ L3085, b ∈ (p3119 :: (p3109 :: (D2984 :: (L3085 ++ (a2574 :: (a2594 :: (a2899 :: (a2920 :: (L2576 ++ (L2596 ++ (L2901 ++ (L2922 ++ []))))))))))))) (all_cons (.head _) all_nil)) all_nil))))))))))), h3139, h3140, h3141, h3142, h3135, (all_app (new_ne2 nb3086 (S2977.ow _ (.tail _ (List.mem_append_right _ (.tail _ (List.mem_append_right _ (.tail _ (List.mem_append_right _ (.head _)))))))).2.1) (all_cons (ne_of_none (e3113 _ _ h3089) n3120).symm all_nil)), (all_app (new_ne2 nb3086 (S2977.ow _ (.tail _ (List.mem_append_right _ (.tail _ (List.mem_append_right _ (.tail _ (List.mem_append_right _ (.tail _ (.head _))))))))).2.1) (all_cons (ne_of_none (e3113 _ _ h3090) n3120).symm all_nil)), (all_app (new_ne2 nb3086 (S2977.ow _ (.tail _ (List.mem_append_right _ (.tail _ (List.mem_append_right _ (.head _)))))).2.1) (all_cons (ne_of_none (e3113 _ _ h3091) n3120).symm all_nil)), (all_app (new_ne2 nb3086 (S2977.ow _ (.tail _ (List.mem_append_right _ (.head _)))).2.1) (all_cons (ne_of_none (e3113 _ _ h3092) n3120).symm all_nil)), (all_app nd3087 (all_cons (ne_of_none (e3113 _ _ h3079) n3120).symm all_nil)), (all_app (new_nl nb3086 (fun b_ hb_ => (S2977.ow b_ (((fun b hb => (.tail _ (List.mem_append_right _ (.tail _ (List.mem_append_right _ (.tail _ (List.mem_append_right _ (.tail _ (.tail _ (List.mem_append_left _ hb)))))))))) : ∀ b ∈ L2576, b ∈ (a2962 :: (L2964 ++ (a2920 :: (L2922 ++ (a2899 :: (L2901 ++ (a2574 :: (a2594 :: (L2576 ++ (L2596 ++ []))))))))))) b_ hb_)).2.1)) (all_cons (fun z => (there_ne (fun b_ hb_ => (S3117.ow b_ (((fun b hb => (.tail _ (.tail _ (List.mem_append_right _ (.tail _ (.tail _ (.tail _ (.tail _ (List.mem_append_left _ hb))))))))) : ∀ b ∈ L2576, b ∈ (p3109 :: (D2984 :: (L3085 ++ (a2574 :: (a2594 :: (a2899 :: (a2920 :: (L2576 ++ (L2596 ++ (L2901 ++ (L2922 ++ [])))))))))))) b_ hb_)).2.1) n3120) _ z rfl) all_nil)), (all_app (new_nl nb3086 (fun b_ hb_ => (S2977.ow b_ (((fun b hb => (.tail _ (List.mem_append_right _ (.tail _ (List.mem_append_right _ (.tail _ (List.mem_append_right _ (.tail _ (.tail _ (List.mem_append_right _ (List.mem_append_left _ hb))))))))))) : ∀ b ∈ L2596, b ∈ (a2962 :: (L2964 ++ (a2920 :: (L2922 ++ (a2899 :: (L2901 ++ (a2574 :: (a2594 :: (L2576 ++ (L2596 ++ []))))))))))) b_ hb_)).2.1)) (all_cons (fun z => (there_ne (fun b_ hb_ => (S3117.ow b_ (((fun b hb => (.tail _ (.tail _ (List.mem_append_right _ (.tail _ (.tail _ (.tail _ (.tail _ (List.mem_append_right _ (List.mem_append_left _ hb)))))))))) : ∀ b ∈ L2596, b ∈ (p3109 :: (D2984 :: (L3085 ++ (a2574 :: (a2594 :: (a2899 :: (a2920 :: (L2576 ++ (L2596 ++ (L2901 ++ (L2922 ++ [])))))))))))) b_ hb_)).2.1) n3120) _ z rfl) all_nil)), (all_app (new_nl nb3086 (fun b_ hb_ => (S2977.ow b_ (((fun b hb => (.tail _ (List.mem_append_right _ (.tail _ (List.mem_append_right _ (.tail _ (List.mem_append_left _ hb))))))) : ∀ b ∈ L2901, b ∈ (a2962 :: (L2964 ++ (a2920 :: (L2922 ++ (a2899 :: (L2901 ++ (a2574 :: (a2594 :: (L2576 ++ (L2596 ++ []))))))))))) b_ hb_)).2.1)) (all_cons (fun z => (there_ne (fun b_ hb_ => (S3117.ow b_ (((fun b hb => (.tail _ (.tail _ (List.mem_append_right _ (.tail _ (.tail _ (.tail _ (.tail _ (List.mem_append_right _ (List.mem_append_right _ (List.mem_append_left _ hb))))))))))) : ∀ b ∈ L2901, b ∈ (p3109 :: (D2984 :: (L3085 ++ (a2574 :: (a2594 :: (a2899 :: (a2920 :: (L2576 ++ (L2596 ++ (L2901 ++ (L2922 ++ [])))))))))))) b_ hb_)).2.1) n3120) _ z rfl) all_nil)), (all_app (new_nl nb3086 (fun b_ hb_ => (S2977.ow b_ (((fun b hb => (.tail _ (List.mem_append_right _ (.tail _ (List.mem_append_left _ hb))))) : ∀ b ∈ L2922, b ∈ (a2962 :: (L2964 ++ (a2920 :: (L2922 ++ (a2899 :: (L2901 ++ (a2574 :: (a2594 :: (L2576 ++ (L2596 ++ []))))))))))) b_ hb_)).2.1)) (all_cons (fun z => (there_ne (fun b_ hb_ => (S3117.ow b_ (((fun b hb => (.tail _ (.tail _ (List.mem_append_right _ (.tail _ (.tail _ (.tail _ (.tail _ (List.mem_append_right _ (List.mem_append_right _ (List.mem_append_right _ (List.mem_append_left _ hb)))))))))))) : ∀ b ∈ L2922, b ∈ (p3109 :: (D2984 :: (L3085 ++ (a2574 :: (a2594 :: (a2899 :: (a2920 :: (L2576 ++ (L2596 ++ (L2901 ++ (L2922 ++ [])))))))))))) b_ hb_)).2.1) n3120) _ z rfl) all_nil)), w3143, w3144, w3145, w3146, w3137, hw⟩
                          · have hw := cW_neg c3108 hw
                            refine ⟨_, rfl, _, _, rfl, rfl, (divW_lit (by decide) (by decide)), _, _, rfl, rfl, (show (0 : Int) < 3 by decide), _, _, rfl, rfl, _, rfl, ?_⟩
                            refine iteD (fun c3147 => ?_) (fun c3147 => ?_)
                            · have hw := cW_pos c3147 hw
                              obtain ⟨g3148, hw⟩ := cW_grd hw
                              obtain ⟨g3149, hw⟩ := cW_grd hw
                              obtain ⟨v3150, L3151, a3152, w3153, hs3154, up3155, gr3156⟩ := OwAll.partM (k := (((v2557 + x2553) / 15) % (4 + (4 * ((v2557 + x2553) % 2))))) d3084 g3149
                              obtain ⟨b3157, rfl, rfl, h3158⟩ := Ow.toInts w3153
                              obtain ⟨g3159, hw⟩ := cW_grd hw
                              refine ⟨_, rfl, _, rfl, _, _, rfl, rfl, (divW_lit (by decide) (by decide)), _, rfl, _, _, rfl, rfl, g3148, _, _, _, _, rfl, rfl, (SqL.of h3079), a3152, (.inl ⟨rfl, _, SqL.of h3158⟩), _, _, _, rfl, rfl, h3158, (app_lenM g3159), ?_⟩
                              generalize g3160 : upd H3077 b3157 _ = H3161
                              obtain ⟨x3162, h3163⟩ := gen_mut g3160
                              have h3164 : H3161 b3157 = some (.lst ((((itD (acc3082) ((((v2557 + x2553) / 15) % (4 + (4 * ((v2557 + x2553) % 2))))))) ++ [0] : (List Int)).map V.int)) := snoc_map h3163
                              have S3165 := S3078.mut1 x3162 ((((fun b hb => (.tail _ (List.mem_append_left _ hb))) : ∀ b ∈ L3085, b ∈ (D2984 :: (L3085 ++ (a2574 :: (a2594 :: (a2899 :: (a2920 :: (L2576 ++ (L2596 ++ (L2901 ++ (L2922 ++ []))))))))))) : ∀ b ∈ L3085, b ∈ (D2984 :: (L3085 ++ (a2574 :: (a2594 :: (a2899 :: (a2920 :: (L2576 ++ (L2596 ++ (L2901 ++ (L2922 ++ []))))))))))) _ (hs3154 _ List.mem_cons_self)) h3164
                              have w3166 : OwAll G3080 H3161 L3085 (vs3083) ((setL (acc3082) ((((v2557 + x2553) / 15) % (4 + (4 * ((v2557 + x2553) % 2))))) (((itD (acc3082) ((((v2557 + x2553) / 15) % (4 + (4 * ((v2557 + x2553) % 2))))))) ++ [0]) : (List (List Int))).map (oL oI)) := upd_tree up3155 x3162 List.mem_cons_self (Ow.ints h3164)
                              have hw := cW_bnd hw
                              have hw := cW_ok hw
                              have hw := hK3107 _ hw
                              have h3168 := (x3162 _ _ h3089 ((new_ne2 nb3086 (S2977.ow _ (.tail _ (List.mem_append_right _ (.tail _ (List.mem_append_right _ (.tail _ (List.mem_append_right _ (.head _)))))))).2.1) _ (hs3154 _ List.mem_cons_self)).symm)
                              have h3169 := (x3162 _ _ h3090 ((new_ne2 nb3086 (S2977.ow _ (.tail _ (List.mem_append_right _ (.tail _ (List.mem_append_right _ (.tail _ (List.mem_append_right _ (.tail _ (.head _))))))))).2.1) _ (hs3154 _ List.mem_cons_self)).symm)
                              have h3170 := (x3162 _ _ h3091 ((new_ne2 nb3086 (S2977.ow _ (.tail _ (List.mem_append_right _ (.tail _ (List.mem_append_right _ (.head _)))))).2.1) _ (hs3154 _ List.mem_cons_self)).symm)
                              have h3171 := (x3162 _ _ h3092 ((new_ne2 nb3086 (S2977.ow _ (.tail _ (List.mem_append_right _ (.head _)))).2.1) _ (hs3154 _ List.mem_cons_self)).symm)
                              have h3172 := (x3162 _ _ h3079 (nd3087 _ (hs3154 _ List.mem_cons_self)).symm)
                              have w3173 : OwAll G3080 H3161 L2576 (vs2575) ((v2571 : (List (List Int))).map (oL oI)) := (OwAll.mono (Same.refl _) (keeps_mut x3162 ((fun b hb z => (fun b hb => ((nl_symm (new_nl nb3086 (fun b_ hb_ => (S2977.ow b_ (((fun b hb => (.tail _ (List.mem_append_right _ (.tail _ (List.mem_append_right _ (.tail _ (List.mem_append_right _ (.tail _ (.tail _ (List.mem_append_left _ hb)))))))))) : ∀ b ∈ L2576, b ∈ (a2962 :: (L2964 ++ (a2920 :: (L2922 ++ (a2899 :: (L2901 ++ (a2574 :: (a2594 :: (L2576 ++ (L2596 ++ []))))))))))) b_ hb_)).2.1))) b hb)) b hb (z ▸ (hs3154 _ List.mem_cons_self))) : ∀ b ∈ L2576, b ≠ b3157)) w3093)
                              have w3174 : OwAll G3080 H3161 L2596 (vs2595) ((v2591 : (List (List Int))).map (oL oI)) := (OwAll.mono (Same.refl _) (keeps_mut x3162 ((fun b hb z => (fun b hb => ((nl_symm (new_nl nb3086 (fun b_ hb_ => (S2977.ow b_ (((fun b hb => (.tail _ (List.mem_append_right _ (.tail _ (List.mem_append_right _ (.tail _ (List.mem_append_right _ (.tail _ (.tail _ (List.mem_append_right _ (List.mem_append_left _ hb))))))))))) : ∀ b ∈ L2596, b ∈ (a2962 :: (L2964 ++ (a2920 :: (L2922 ++ (a2899 :: (L2901 ++ (a2574 :: (a2594 :: (L2576 ++ (L2596 ++ []))))))))))) b_ hb_)).2.1))) b hb)) b hb (z ▸ (hs3154 _ List.mem_cons_self))) : ∀ b ∈ L2596, b ≠ b3157)) w3094)
                              have w3175 : OwAll G3080 H3161 L2901 (vs2900) ((v2896 : (List (List Int))).map (oL oI)) := (OwAll.mono (Same.refl _) (keeps_mut x3162 ((fun b hb z => (fun b hb => ((nl_symm (new_nl nb3086 (fun b_ hb_ => (S2977.ow b_ (((fun b hb => (.tail _ (List.mem_append_right _ (.tail _ (List.mem_append_right _ (.tail _ (List.mem_append_left _ hb))))))) : ∀ b ∈ L2901, b ∈ (a2962 :: (L2964 ++ (a2920 :: (L2922 ++ (a2899 :: (L2901 ++ (a2574 :: (a2594 :: (L2576 ++ (L2596 ++ []))))))))))) b_ hb_)).2.1))) b hb)) b hb (z ▸ (hs3154 _ List.mem_cons_self))) : ∀ b ∈ L2901, b ≠ b3157)) w3095)
                              have w3176 : OwAll G3080 H3161 L2922 (vs2921) ((v2917 : (List (List Int))).map (oL oI)) := (OwAll.mono (Same.refl _) (keeps_mut x3162 ((fun b hb z => (fun b hb => ((nl_symm (new_nl nb3086 (fun b_ hb_ => (S2977.ow b_ (((fun b hb => (.tail _ (List.mem_append_right _ (.tail _ (List.mem_append_left _ hb))))) : ∀ b ∈ L2922, b ∈ (a2962 :: (L2964 ++ (a2920 :: (L2922 ++ (a2899 :: (L2901 ++ (a2574 :: (a2594 :: (L2576 ++ (L2596 ++ []))))))))))) b_ hb_)).2.1))) b hb)) b hb (z ▸ (hs3154 _ List.mem_cons_self))) : ∀ b ∈ L2922, b ≠ b3157)) w3096)
                              exact ⟨(setL (acc3082) ((((v2557 + x2553) / 15) % (4 + (4 * ((v2557 + x2553) % 2))))) (((itD (acc3082) ((((v2557 + x2553) / 15) % (4 + (4 * ((v2557 + x2553) % 2))))))) ++ [0])), (vs3083), L3085, _, rfl, (Same.refl _), (S3165.sub (all_cons (.tail _ (List.mem_append_right _ (.head _))) (all_cons (.tail _ (List.mem_append_right _ (.tail _ (.head _)))) (all_cons (.tail _ (List.mem_append_right _ (.tail _ (.tail _ (.head _))))) (all_cons (.tail _ (List.mem_append_right _ (.tail _ (.tail _ (.tail _ (.head _)))))) (all_cons (.head _) (all_app ((fun b hb => (.tail _ (List.mem_append_right _ (.tail _ (.tail _ (.tail _ (.tail _ (List.mem_append_left _ hb)))))))) : ∀ b ∈ L2576, b ∈ (D2984 :: (L3085 ++ (a2574 :: (a2594 :: (a2899 :: (a2920 :: (L2576 ++ (L2596 ++ (L2901 ++ (L2922 ++ []))))))))))) (all_app ((fun b hb => (.tail _ (List.mem_append_right _ (.tail _ (.tail _ (.tail _ (.tail _ (List.mem_append_right _ (List.mem_append_left _ hb))))))))) : ∀ b ∈ L2596, b ∈ (D2984 :: (L3085 ++ (a2574 :: (a2594 :: (a2899 :: (a2920 :: (L2576 ++ (L2596 ++ (L2901 ++ (L2922 ++ []))))))))))) (all_app ((fun b hb => (.tail _ (List.mem_append_right _ (.tail _ (.tail _ (.tail _ (.tail _ (List.mem_append_right _ (List.mem_append_right _ (List.mem_append_left _ hb)))))))))) : ∀ b ∈ L2901, b ∈ (D2984 :: (L3085 ++ (a2574 :: (a2594 :: (a2899 :: (a2920 :: (L2576 ++ (L2596 ++ (L2901 ++ (L2922 ++ []))))))))))) (all_app ((fun b hb => (.tail _ (List.mem_append_right _ (.tail _ (.tail _ (.tail _ (.tail _ (List.mem_append_right _ (List.mem_append_right _ (List.mem_append_right _ (List.mem_append_left _ hb))))))))))) : ∀ b ∈ L2922, b ∈ (D2984 :: (L3085 ++ (a2574 :: (a2594 :: (a2899 :: (a2920 :: (L2576 ++ (L2596 ++ (L2901 ++ (L2922 ++ []))))))))))) (all_app ((fun b hb => (.tail _ (List.mem_append_left _ hb))) : ∀ b ∈ L3085, b ∈ (D2984 :: (L3085 ++ (a2574 :: (a2594 :: (a2899 :: (a2920 :: (L2576 ++ (L2596 ++ (L2901 ++ (L2922 ++ []))))))))))) all_nil))))))))))), h3168, h3169, h3170, h3171, h3172, (new_ne2 nb3086 (S2977.ow _ (.tail _ (List.mem_append_right _ (.tail _ (List.mem_append_right _ (.tail _ (List.mem_append_right _ (.head _)))))))).2.1), (new_ne2 nb3086 (S2977.ow _ (.tail _ (List.mem_append_right _ (.tail _ (List.mem_append_right _ (.tail _ (List.mem_append_right _ (.tail _ (.head _))))))))).2.1), (new_ne2 nb3086 (S2977.ow _ (.tail _ (List.mem_append_right _ (.tail _ (List.mem_append_right _ (.head _)))))).2.1), (new_ne2 nb3086 (S2977.ow _ (.tail _ (List.mem_append_right _ (.head _)))).2.1), nd3087, (new_nl nb3086 (fun b_ hb_ => (S2977.ow b_ (((fun b hb => (.tail _ (List.mem_append_right _ (.tail _ (List.mem_append_right _ (.tail _ (List.mem_append_right _ (.tail _ (.tail _ (List.mem_append_left _ hb)))))))))) : ∀ b ∈ L2576, b ∈ (a2962 :: (L2964 ++ (a2920 :: (L2922 ++ (a2899 :: (L2901 ++ (a2574 :: (a2594 :: (L2576 ++ (L2596 ++ []))))))))))) b_ hb_)).2.1)), (new_nl nb3086 (fun b_ hb_ => (S2977.ow b_ (((fun b hb => (.tail _ (List.mem_append_right _ (.tail _ (List.mem_append_right _ (.tail _ (List.mem_append_right _ (.tail _ (.tail _ (List.mem_append_right _ (List.mem_append_left _ hb))))))))))) : ∀ b ∈ L2596, b ∈ (a2962 :: (L2964 ++ (a2920 :: (L2922 ++ (a2899 :: (L2901 ++ (a2574 :: (a2594 :: (L2576 ++ (L2596 ++ []))))))))))) b_ hb_)).2.1)), (new_nl nb3086 (fun b_ hb_ => (S2977.ow b_ (((fun b hb => (.tail _ (List.mem_append_right _ (.tail _ (List.mem_append_right _ (.tail _ (List.mem_append_left _ hb))))))) : ∀ b ∈ L2901, b ∈ (a2962 :: (L2964 ++ (a2920 :: (L2922 ++ (a2899 :: (L2901 ++ (a2574 :: (a2594 :: (L2576 ++ (L2596 ++ []))))))))))) b_ hb_)).2.1)), (new_nl nb3086 (fun b_ hb_ => (S2977.ow b_ (((fun b hb => (.tail _ (List.mem_append_right _ (.tail _ (List.mem_append_left _ hb))))) : ∀ b ∈ L2922, b ∈ (a2962 :: (L2964 ++ (a2920 :: (L2922 ++ (a2899 :: (L2901 ++ (a2574 :: (a2594 :: (L2576 ++ (L2596 ++ []))))))))))) b_ hb_)).2.1)), w3173, w3174, w3175, w3176, w3166, hw⟩
                            · have hw := cW_neg c3147 hw
                              obtain ⟨g3177, hw⟩ := cW_grd hw
                              obtain ⟨g3178, hw⟩ := cW_grd hw
                              obtain ⟨v3179, L3180, a3181, w3182, hs3183, up3184, gr3185⟩ := OwAll.partM (k := (((v2557 + x2553) / 15) % (4 + (4 * ((v2557 + x2553) % 2))))) d3084 g3178
                              obtain ⟨b3186, rfl, rfl, h3187⟩ := Ow.toInts w3182
                              refine ⟨_, rfl, _, rfl, _, _, rfl, rfl, (divW_lit (by decide) (by decide)), _, rfl, _, _, rfl, rfl, g3177, _, _, _, _, rfl, rfl, (SqL.of h3079), a3181, _, rfl, _, _, rfl, (SqL.of h3187), fun p3188 n3189 => ?_⟩
                              generalize g3190 : upd H3077 p3188 _ = H3191
                              obtain ⟨e3192, h3193⟩ := gen_new n3189 g3190
                              have h3194 : H3191 p3188 = some (.lst ((cutL ((itD (acc3082) ((((v2557 + x2553) / 15) % (4 + (4 * ((v2557 + x2553) % 2))))))) (some (1)) none : (List Int)).map V.int)) := cut_map h3193
                              have fr3195 := S3078.free n3189
                              have S3196 := S3078.new n3189 e3192 h3194 fr3195
                              obtain ⟨g3197, hw⟩ := cW_grd hw
                              obtain ⟨g3198, hw⟩ := cW_grd hw
                              have w3199 : OwAll G3080 H3191 L3085 (vs3083) ((acc3082 : (List (List Int))).map (oL oI)) := (OwAll.mono (Same.refl _) (keeps_same e3192) d3084)
                              have h3200 := (e3192 _ _ h3079)
                              refine ⟨_, rfl, _, rfl, _, _, rfl, rfl, (divW_lit (by decide) (by decide)), _, rfl, _, _, rfl, rfl, g3197, _, _, _, _, rfl, rfl, h3200, (ixN_len w3199.lenM g3198), ?_⟩
                              obtain ⟨L3201, hL3202, w3203⟩ := OwAll.setM w3199 g3198 (Ow.ints h3194) ((all_cons (fun z => (there_ne (fun b_ hb_ => (S3078.ow b_ (((fun b hb => (.tail _ (List.mem_append_left _ hb))) : ∀ b ∈ L3085, b ∈ (D2984 :: (L3085 ++ (a2574 :: (a2594 :: (a2899 :: (a2920 :: (L2576 ++ (L2596 ++ (L2901 ++ (L2922 ++ []))))))))))) b_ hb_)).2.1) n3189) _ z rfl) all_nil) : ∀ b ∈ (p3188 :: ([] : List Addr)), b ∉ L3085)
                              generalize g3205 : upd H3191 D2984 _ = H3206
                              obtain ⟨x3207, h3208⟩ := gen_mut g3205
                              have h3209 : H3206 D2984 = some (.lst ((vs3083).set ((ixN (vs3083).length ((((v2557 + x2553) / 15) % (4 + (4 * ((v2557 + x2553) % 2)))))).getD 0) (V.ref p3188))) := h3208
                              have S3210 := S3196.mut1 x3207 (.tail _ (.head _)) h3209
                              have w3204 : OwAll G3080 H3206 L3201 ((vs3083).set ((ixN (vs3083).length ((((v2557 + x2553) / 15) % (4 + (4 * ((v2557 + x2553) % 2)))))).getD 0) (V.ref p3188)) ((setL (acc3082) ((((v2557 + x2553) / 15) % (4 + (4 * ((v2557 + x2553) % 2))))) (cutL ((itD (acc3082) ((((v2557 + x2553) / 15) % (4 + (4 * ((v2557 + x2553) % 2))))))) (some (1)) none) : (List (List Int))).map (oL oI)) := OwAll.mono (Same.refl _) (keeps_mut x3207 ((fun b hb => ((all_app nd3087 (all_cons (ne_of_none h3079 n3189).symm all_nil)) : ∀ b ∈ (L3085 ++ (p3188 :: ([] : List Addr))), b ≠ D2984) b (hL3202 b hb)) : ∀ b ∈ L3201, b ≠ D2984)) w3203
                              have hw := cW_bnd hw
                              have hw := cW_ok hw
                              have hw := hK3107 _ hw
                              have h3212 := (x3207 _ _ (e3192 _ _ h3089) (ne_of_none h2978 n2985))
                              have h3213 := (x3207 _ _ (e3192 _ _ h3090) (ne_of_none (e2961 _ _ (e2954 _ _ (e2940 _ _ (e2919 _ _ (e2898 _ _ h2891))))) n2985))
                              have h3214 := (x3207 _ _ (e3192 _ _ h3091) (ne_of_none (e2961 _ _ (e2954 _ _ h2943)) n2985))
                              have h3215 := (x3207 _ _ (e3192 _ _ h3092) (ne_of_none (e2961 _ _ h2957) n2985))
                              have w3216 : OwAll G3080 H3206 L2576 (vs2575) ((v2571 : (List (List Int))).map (oL oI)) := (OwAll.mono (Same.refl _) (keeps_mut x3207 ((there_ne (fun b_ hb_ => (S2977.ow b_ (((fun b hb => (.tail _ (List.mem_append_right _ (.tail _ (List.mem_append_right _ (.tail _ (List.mem_append_right _ (.tail _ (.tail _ (List.mem_append_left _ hb)))))))))) : ∀ b ∈ L2576, b ∈ (a2962 :: (L2964 ++ (a2920 :: (L2922 ++ (a2899 :: (L2901 ++ (a2574 :: (a2594 :: (L2576 ++ (L2596 ++ []))))))))))) b_ hb_)).2.1) n2985) : ∀ b ∈ L2576, b ≠ D2984)) (OwAll.mono (Same.refl _) (keeps_same e3192) w3093))
                              have w3217 : OwAll G3080 H3206 L2596 (vs2595) ((v2591 : (List (List Int))).map (oL oI)) := (OwAll.mono (Same.refl _) (keeps_mut x3207 ((there_ne (fun b_ hb_ => (S2977.ow b_ (((fun b hb => (.tail _ (List.mem_append_right _ (.tail _ (List.mem_append_right _ (.tail _ (List.mem_append_right _ (.tail _ (.tail _ (List.mem_append_right _ (List.mem_append_left _ hb))))))))))) : ∀ b ∈ L2596, b ∈ (a2962 :: (L2964 ++ (a2920 :: (L2922 ++ (a2899 :: (L2901 ++ (a2574 :: (a2594 :: (L2576 ++ (L2596 ++ []))))))))))) b_ hb_)).2.1) n2985) : ∀ b ∈ L2596, b ≠ D2984)) (OwAll.mono (Same.refl _) (keeps_same e3192) w3094))
                              have w3218 : OwAll G3080 H3206 L2901 (vs2900) ((v2896 : (List (List Int))).map (oL oI)) := (OwAll.mono (Same.refl _) (keeps_mut x3207 ((there_ne (fun b_ hb_ => (S2977.ow b_ (((fun b hb => (.tail _ (List.mem_append_right _ (.tail _ (List.mem_append_right _ (.tail _ (List.mem_append_left _ hb))))))) : ∀ b ∈ L2901, b ∈ (a2962 :: (L2964 ++ (a2920 :: (L2922 ++ (a2899 :: (L2901 ++ (a2574 :: (a2594 :: (L2576 ++ (L2596 ++ []))))))))))) b_ hb_)).2.1) n2985) : ∀ b ∈ L2901, b ≠ D2984)) (OwAll.mono (Same.refl _) (keeps_same e3192) w3095))
                              have w3219 : OwAll G3080 H3206 L2922 (vs2921) ((v2917 : (List (List Int))).map (oL oI)) := (OwAll.mono (Same.refl _) (keeps_mut x3207 ((there_ne (fun b_ hb_ => (S2977.ow b_ (((fun b hb => (.tail _ (List.mem_append_right _ (.tail _ (List.mem_append_left _ hb))))) : ∀ b ∈ L2922, b ∈ (a2962 :: (L2964 ++ (a2920 :: (L2922 ++ (a2899 :: (L2901 ++ (a2574 :: (a2594 :: (L2576 ++ (L2596 ++ []))))))))))) b_ hb_)).2.1) n2985) : ∀ b ∈ L2922, b ≠ D2984)) (OwAll.mono (Same.refl _) (keeps_same e3192) w3096))
                              exact ⟨(setL (acc3082) ((((v2557 + x2553) / 15) % (4 + (4 * ((v2557 + x2553) % 2))))) (cutL ((itD (acc3082) ((((v2557 + x2553) / 15) % (4 + (4 * ((v2557 + x2553) % 2))))))) (some (1)) none)), ((vs3083).set ((ixN (vs3083).length ((((v2557 + x2553) / 15) % (4 + (4 * ((v2557 + x2553) % 2)))))).getD 0) (V.ref p3188)), L3201, _, rfl, (Same.refl _), (S3210.sub (all_cons (.tail _ (.tail _ (List.mem_append_right _ (.head _)))) (all_cons (.tail _ (.tail _ (List.mem_append_right _ (.tail _ (.head _))))) (all_cons (.tail _ (.tail _ (List.mem_append_right _ (.tail _ (.tail _ (.head _)))))) (all_cons (.tail _ (.tail _ (List.mem_append_right _ (.tail _ (.tail _ (.tail _ (.head _))))))) (all_cons (.tail _ (.head _)) (all_app ((fun b hb => (.tail _ (.tail _ (List.mem_append_right _ (.tail _ (.tail _ (.tail _ (.tail _ (List.mem_append_left _ hb))))))))) : ∀ b ∈ L2576, b ∈ (p3188 :: (D2984 :: (L3085 ++ (a2574 :: (a2594 :: (a2899 :: (a2920 :: (L2576 ++ (L2596 ++ (L2901 ++ (L2922 ++ [])))))))))))) (all_app ((fun b hb => (.tail _ (.tail _ (List.mem_append_right _ (.tail _ (.tail _ (.tail _ (.tail _ (List.mem_append_right _ (List.mem_append_left _ hb)))))))))) : ∀ b ∈ L2596, b ∈ (p3188 :: (D2984 :: (L3085 ++ (a2574 :: (a2594 :: (a2899 :: (a2920 :: (L2576 ++ (L2596 ++ (L2901 ++ (L2922 ++ [])))))))))))) (all_app ((fun b hb => (.tail _ (.tail _ (List.mem_append_right _ (.tail _ (.tail _ (.tail _ (.tail _ (List.mem_append_right _ (List.mem_append_right _ (List.mem_append_left _ hb))))))))))) : ∀ b ∈ L2901, b ∈ (p3188 :: (D2984 :: (L3085 ++ (a2574 :: (a2594 :: (a2899 :: (a2920 :: (L2576 ++ (L2596 ++ (L2901 ++ (L2922 ++ [])))))))))))) (all_app ((fun b hb => (.tail _ (.tail _ (List.mem_append_right _ (.tail _ (.tail _ (.tail _ (.tail _ (List.mem_append_right _ (List.mem_append_right _ (List.mem_append_right _ (List.mem_append_left _ hb)))))))))))) : ∀ b ∈ L2922, b ∈ (p3188 :: (D2984 :: (L3085 ++ (a2574 :: (a2594 :: (a2899 :: (a2920 :: (L2576 ++ (L2596 ++ (L2901 ++ (L2922 ++ [])))))))))))) (all_app (fun b hb => ((all_app ((fun b hb => (.tail _ (.tail _ (List.mem_append_left _ hb)))) : ∀ b ∈ L3085, b ∈ (p3188 :: (D2984 :: (L3085 ++ (a2574 :: (a2594 :: (a2899 :: (a2920 :: (L2576 ++ (L2596 ++ (L2901 ++ (L2922 ++ [])))))))))))) (all_cons (.head _) all_nil)) : ∀ b ∈ (L3085 ++ (p3188 :: ([] : List Addr))), b ∈ (p3188 :: (D2984 :: (L3085 ++ (a2574 :: (a2594 :: (a2899 :: (a2920 :: (L2576 ++ (L2596 ++ (L2901 ++ (L2922 ++ [])))))))))))) b (hL3202 b hb)) all_nil))))))))))), h3212, h3213, h3214, h3215, h3209, (fun b hb => ((all_app (new_ne2 nb3086 (S2977.ow _ (.tail _ (List.mem_append_right _ (.tail _ (List.mem_append_right _ (.tail _ (List.mem_append_right _ (.head _)))))))).2.1) (all_cons (ne_of_none h3089 n3189).symm all_nil)) : ∀ b ∈ (L3085 ++ (p3188 :: ([] : List Addr))), b ≠ a2574) b (hL3202 b hb)), (fun b hb => ((all_app (new_ne2 nb3086 (S2977.ow _ (.tail _ (List.mem_append_right _ (.tail _ (List.mem_append_right _ (.tail _ (List.mem_append_right _ (.tail _ (.head _))))))))).2.1) (all_cons (ne_of_none h3090 n3189).symm all_nil)) : ∀ b ∈ (L3085 ++ (p3188 :: ([] : List Addr))), b ≠ a2594) b (hL3202 b hb)), (fun b hb => ((all_app (new_ne2 nb3086 (S2977.ow _ (.tail _ (List.mem_append_right _ (.tail _ (List.mem_append_right _ (.head _)))))).2.1) (all_cons (ne_of_none h3091 n3189).symm all_nil)) : ∀ b ∈ (L3085 ++ (p3188 :: ([] : List Addr))), b ≠ a2899) b (hL3202 b hb)), (fun b hb => ((all_app (new_ne2 nb3086 (S2977.ow _ (.tail _ (List.mem_append_right _ (.head _)))).2.1) (all_cons (ne_of_none h3092 n3189).symm all_nil)) : ∀ b ∈ (L3085 ++ (p3188 :: ([] : List Addr))), b ≠ a2920) b (hL3202 b hb)), (fun b hb => ((all_app nd3087 (all_cons (ne_of_none h3079 n3189).symm all_nil)) : ∀ b ∈ (L3085 ++ (p3188 :: ([] : List Addr))), b ≠ D2984) b (hL3202 b hb)), (fun c hc => ((all_app (new_nl nb3086 (fun b_ hb_ => (S2977.ow b_ (((fun b hb => (.tail _ (List.mem_append_right _ (.tail _ (List.mem_append_right _ (.tail _ (List.mem_append_right _ (.tail _ (.tail _ (List.mem_append_left _ hb)))))))))) : ∀ b ∈ L2576, b ∈ (a2962 :: (L2964 ++ (a2920 :: (L2922 ++ (a2899 :: (L2901 ++ (a2574 :: (a2594 :: (L2576 ++ (L2596 ++ []))))))))))) b_ hb_)).2.1)) (all_cons (fun z => (there_ne (fun b_ hb_ => (S3078.ow b_ (((fun b hb => (.tail _ (List.mem_append_right _ (.tail _ (.tail _ (.tail _ (.tail _ (List.mem_append_left _ hb)))))))) : ∀ b ∈ L2576, b ∈ (D2984 :: (L3085 ++ (a2574 :: (a2594 :: (a2899 :: (a2920 :: (L2576 ++ (L2596 ++ (L2901 ++ (L2922 ++ []))))))))))) b_ hb_)).2.1) n3189) _ z rfl) all_nil)) : ∀ c ∈ (L3085 ++ (p3188 :: ([] : List Addr))), c ∉ L2576) c (hL3202 c hc)), (fun c hc => ((all_app (new_nl nb3086 (fun b_ hb_ => (S2977.ow b_ (((fun b hb => (.tail _ (List.mem_append_right _ (.tail _ (List.mem_append_right _ (.tail _ (List.mem_append_right _ (.tail _ (.tail _ (List.mem_append_right _ (List.mem_append_left _ hb))))))))))) : ∀ b ∈ L2596, b ∈ (a2962 :: (L2964 ++ (a2920 :: (L2922 ++ (a2899 :: (L2901 ++ (a2574 :: (a2594 :: (L2576 ++ (L2596 ++ []))))))))))) b_ hb_)).2.1)) (all_cons (fun z => (there_ne (fun b_ hb_ => (S3078.ow b_ (((fun b hb => (.tail _ (List.mem_append_right _ (.tail _ (.tail _ (.tail _ (.tail _ (List.mem_append_right _ (List.mem_append_left _ hb))))))))) : ∀ b ∈ L2596, b ∈ (D2984 :: (L3085 ++ (a2574 :: (a2594 :: (a2899 :: (a2920 :: (L2576 ++ (L2596 ++ (L2901 ++ (L2922 ++ []))))))))))) b_ hb_)).2.1) n3189) _ z rfl) all_nil)) : ∀ c ∈ (L3085 ++ (p3188 :: ([] : List Addr))), c ∉ L2596) c (hL3202 c hc)), (fun c hc => ((all_app (new_nl nb3086 (fun b_ hb_ => (S2977.ow b_ (((fun b hb => (.tail _ (List.mem_append_right _ (.tail _ (List.mem_append_right _ (.tail _ (List.mem_append_left _ hb))))))) : ∀ b ∈ L2901, b ∈ (a2962 :: (L2964 ++ (a2920 :: (L2922 ++ (a2899 :: (L2901 ++ (a2574 :: (a2594 :: (L2576 ++ (L2596 ++ []))))))))))) b_ hb_)).2.1)) (all_cons (fun z => (there_ne (fun b_ hb_ => (S3078.ow b_ (((fun b hb => (.tail _ (List.mem_append_right _ (.tail _ (.tail _ (.tail _ (.tail _ (List.mem_append_right _ (List.mem_append_right _ (List.mem_append_left _ hb)))))))))) : ∀ b ∈ L2901, b ∈ (D2984 :: (L3085 ++ (a2574 :: (a2594 :: (a2899 :: (a2920 :: (L2576 ++ (L2596 ++ (L2901 ++ (L2922 ++ []))))))))))) b_ hb_)).2.1) n3189) _ z rfl) all_nil)) : ∀ c ∈ (L3085 ++ (p3188 :: ([] : List Addr))), c ∉ L2901) c (hL3202 c hc)), (fun c hc => ((all_app (new_nl nb3086 (fun b_ hb_ => (S2977.ow b_ (((fun b hb => (.tail _ (List.mem_append_right _ (.tail _ (List.mem_append_left _ hb))))) : ∀ b ∈ L2922, b ∈ (a2962 :: (L2964 ++ (a2920 :: (L2922 ++ (a2899 :: (L2901 ++ (a2574 :: (a2594 :: (L2576 ++ (L2596 ++ []))))))))))) b_ hb_)).2.1)) (all_cons (fun z => (there_ne (fun b_ hb_ => (S3078.ow b_ (((fun b hb => (.tail _ (List.mem_append_right _ (.tail _ (.tail _ (.tail _ (.tail _ (List.mem_append_right _ (List.mem_append_right _ (List.mem_append_right _ (List.mem_append_left _ hb))))))))))) : ∀ b ∈ L2922, b ∈ (D2984 :: (L3085 ++ (a2574 :: (a2594 :: (a2899 :: (a2920 :: (L2576 ++ (L2596 ++ (L2901 ++ (L2922 ++ []))))))))))) b_ hb_)).2.1) n3189) _ z rfl) all_nil)) : ∀ c ∈ (L3085 ++ (p3188 :: ([] : List Addr))), c ∉ L2922) c (hL3202 c hc)), w3216, w3217, w3218, w3219, w3204, hw⟩
                        · intro σ H3220 hw
                          obtain ⟨bad_3103, vs3104, L3105, G3241, rfl, eG3242, S3221, h3222, h3223, h3224, h3225, h3226, ne3227, ne3228, ne3229, ne3230, ne3231, ne3232, ne3233, ne3234, ne3235, w3236, w3237, w3238, w3239, w3240, hw⟩ := hw
                          unfold F_law_k7 at hw
                          obtain ⟨K3244, hK3245, hw⟩ := cW_push hw
                          refine ⟨_, rfl, _, rfl, ⟨_, (SqL.of h3222)⟩, fun D3246 n3247 => lc_list (K := K) (a := a2574) (xs := vs2575) (fun i H' => ∃ (G' : Hp) (acc3249 : (List (List Int))) (vs3250 : List V) (L3248 : List Addr), Same G3241 G' ∧ Sep [] H H G' H' (D3246 :: (L3248 ++ (a2574 :: (a2594 :: (a2899 :: (a2920 :: (D2984 :: (L2576 ++ (L2596 ++ (L2901 ++ (L2922 ++ (L3105 ++ [])))))))))))) ∧ H' a2574 = some (.lst (vs2575)) ∧ H' a2594 = some (.lst (vs2595)) ∧ H' a2899 = some (.lst (vs2900)) ∧ H' a2920 = some (.lst (vs2921)) ∧ H' D2984 = some (.lst (vs3104)) ∧ H' D3246 = some (.lst vs3250) ∧ OwAll G' H' L2576 (vs2575) ((v2571 : (List (List Int))).map (oL oI)) ∧ OwAll G' H' L2596 (vs2595) ((v2591 : (List (List Int))).map (oL oI)) ∧ OwAll G' H' L2901 (vs2900) ((v2896 : (List (List Int))).map (oL oI)) ∧ OwAll G' H' L2922 (vs2921) ((v2917 : (List (List Int))).map (oL oI)) ∧ OwAll G' H' L3105 (vs3104) ((bad_3103 : (List (List Int))).map (oL oI)) ∧ OwAll G' H' L3248 vs3250 ((acc3249 : (List (List Int))).map (oL oI)) ∧ (∀ b ∈ L3248, H3220 b = none) ∧ (∀ b ∈ L3248, b ≠ D3246) ∧ Same H3220 H' ∧ cW (mapA (List.drop i (v2571)) acc3249 (fun x => noEr (F_law_c8  x))) K3244 EE) ?_ ?_ ?_ ?_⟩
                          · generalize g3251 : upd H3220 D3246 _ = H3252
                            obtain ⟨e3253, h3254⟩ := gen_new n3247 g3251
                            have fr3255 := S3221.free n3247
                            have S3256 := S3221.new n3247 e3253 h3254 fr3255
                            have h3257 := (e3253 _ _ h3222)
                            have h3258 := (e3253 _ _ h3223)
                            have h3259 := (e3253 _ _ h3224)
                            have h3260 := (e3253 _ _ h3225)
                            have h3261 := (e3253 _ _ h3226)
                            have w3262 : OwAll G3241 H3252 L2576 (vs2575) ((v2571 : (List (List Int))).map (oL oI)) := (OwAll.mono (Same.refl _) (keeps_same e3253) w3236)
                            have w3263 : OwAll G3241 H3252 L2596 (vs2595) ((v2591 : (List (List Int))).map (oL oI)) := (OwAll.mono (Same.refl _) (keeps_same e3253) w3237)
                            have w3264 : OwAll G3241 H3252 L2901 (vs2900) ((v2896 : (List (List Int))).map (oL oI)) := (OwAll.mono (Same.refl _) (keeps_same e3253) w3238)
                            have w3265 : OwAll G3241 H3252 L2922 (vs2921) ((v2917 : (List (List Int))).map (oL oI)) := (OwAll.mono (Same.refl _) (keeps_same e3253) w3239)
                            have w3266 : OwAll G3241 H3252 L3105 (vs3104) ((bad_3103 : (List (List Int))).map (oL oI)) := (OwAll.mono (Same.refl _) (keeps_same e3253) w3240)
                            exact ⟨_, [], [], [], Same.refl _, (S3256.sub (all_cons (.head _) (all_app (L := []) all_nil (all_cons (.tail _ (.head _)) (all_cons (.tail _ (.tail _ (.head _))) (all_cons (.tail _ (.tail _ (.tail _ (.head _)))) (all_cons (.tail _ (.tail _ (.tail _ (.tail _ (.head _))))) (all_cons (.tail _ (.tail _ (.tail _ (.tail _ (.tail _ (.head _)))))) (all_app ((fun b hb => (.tail _ (.tail _ (.tail _ (.tail _ (.tail _ (.tail _ (List.mem_append_left _ hb)))))))) : ∀ b ∈ L2576, b ∈ (D3246 :: (a2574 :: (a2594 :: (a2899 :: (a2920 :: (D2984 :: (L2576 ++ (L2596 ++ (L2901 ++ (L2922 ++ (L3105 ++ [])))))))))))) (all_app ((fun b hb => (.tail _ (.tail _ (.tail _ (.tail _ (.tail _ (.tail _ (List.mem_append_right _ (List.mem_append_left _ hb))))))))) : ∀ b ∈ L2596, b ∈ (D3246 :: (a2574 :: (a2594 :: (a2899 :: (a2920 :: (D2984 :: (L2576 ++ (L2596 ++ (L2901 ++ (L2922 ++ (L3105 ++ [])))))))))))) (all_app ((fun b hb => (.tail _ (.tail _ (.tail _ (.tail _ (.tail _ (.tail _ (List.mem_append_right _ (List.mem_append_right _ (List.mem_append_left _ hb)))))))))) : ∀ b ∈ L2901, b ∈ (D3246 :: (a2574 :: (a2594 :: (a2899 :: (a2920 :: (D2984 :: (L2576 ++ (L2596 ++ (L2901 ++ (L2922 ++ (L3105 ++ [])))))))))))) (all_app ((fun b hb => (.tail _ (.tail _ (.tail _ (.tail _ (.tail _ (.tail _ (List.mem_append_right _ (List.mem_append_right _ (List.mem_append_right _ (List.mem_append_left _ hb))))))))))) : ∀ b ∈ L2922, b ∈ (D3246 :: (a2574 :: (a2594 :: (a2899 :: (a2920 :: (D2984 :: (L2576 ++ (L2596 ++ (L2901 ++ (L2922 ++ (L3105 ++ [])))))))))))) (all_app ((fun b hb => (.tail _ (.tail _ (.tail _ (.tail _ (.tail _ (.tail _ (List.mem_append_right _ (List.mem_append_right _ (List.mem_append_right _ (List.mem_append_right _ (List.mem_append_left _ hb)))))))))))) : ∀ b ∈ L3105, b ∈ (D3246 :: (a2574 :: (a2594 :: (a2899 :: (a2920 :: (D2984 :: (L2576 ++ (L2596 ++ (L2901 ++ (L2922 ++ (L3105 ++ [])))))))))))) all_nil))))))))))))), h3257, h3258, h3259, h3260, h3261, h3254, w3262, w3263, w3264, w3265, w3266, OwAll.nil, all_nil, all_nil, e3253, hw⟩
                          · intro i H3267 _ hw
                            obtain ⟨G3270, acc3272, vs3273, L3275, eG3271, S3268, h3279, h3280, h3281, h3282, h3283, h3269, w3284, w3285, w3286, w3287, w3288, d3274, nb3276, nd3277, eo3278, hw⟩ := hw
                            exact (SqL.of h3279)
                          · intro i x H3289 hj hw
                            obtain ⟨G3292, acc3294, vs3295, L3297, eG3293, S3290, h3301, h3302, h3303, h3304, h3305, h3291, w3306, w3307, w3308, w3309, w3310, d3296, nb3298, nd3299, eo3300, hw⟩ := hw
                            obtain ⟨x3311, L3312, hx, w3313, hs3314⟩ := OwAll.turn w3306 hj
                            obtain ⟨b3315, rfl, rfl, h3316⟩ := Ow.toInts w3313
                            have hv3317 := hj
                            have hx3318 := hx
                            obtain ⟨z3319, hw⟩ := cW_mapA hx hw
                            have hw := cW_noEr hw
                            have hw : cW (F_law_c8  (x3311)) _ (fun _ => False) := hw
                            unfold F_law_c8 at hw
                            refine ⟨rfl, ?_⟩
                            refine tyes_go ?_
                            refine ⟨_, rfl, _, _, rfl, (SqL.of h3316), fun p3321 n3322 => ?_⟩
                            generalize g3323 : upd H3289 p3321 _ = H3324
                            obtain ⟨e3325, h3326⟩ := gen_new n3322 g3323
                            have h3327 : H3324 p3321 = some (.lst ((x3311 : (List Int)).map V.int)) := h3326
                            have fr3328 := S3290.free n3322
                            have S3329 := S3290.new n3322 e3325 h3327 fr3328
                            have w3330 : OwAll G3292 H3324 L3297 (vs3295) ((acc3294 : (List (List Int))).map (oL oI)) := (OwAll.mono (Same.refl _) (keeps_same e3325) d3296)
                            have h3331 := (e3325 _ _ h3291)
                            refine ⟨_, h3331, (app_len (OwAll.rpA w3330 (encO_L encO_I) S3329.sG) z3319), ?_⟩
                            generalize g3332 : upd H3324 D3246 _ = H3333
                            obtain ⟨x3334, h3335⟩ := gen_mut g3332
                            have S3336 := S3329.mut1 x3334 (.tail _ (.head _)) h3335
                            have hw := cW_ok hw
                            have h3337 := (x3334 _ _ (e3325 _ _ h3301) (ne_of_none h3222 n3247))
                            have h3338 := (x3334 _ _ (e3325 _ _ h3302) (ne_of_none h3223 n3247))
                            have h3339 := (x3334 _ _ (e3325 _ _ h3303) (ne_of_none h3224 n3247))
                            have h3340 := (x3334 _ _ (e3325 _ _ h3304) (ne_of_none h3225 n3247))
                            have h3341 := (x3334 _ _ (e3325 _ _ h3305) (ne_of_none h3226 n3247))
                            have w3342 : OwAll G3292 H3333 L2576 (vs2575) ((v2571 : (List (List Int))).map (oL oI)) := (OwAll.mono (Same.refl _) (keeps_mut x3334 ((there_ne (fun b_ hb_ => (S3221.ow b_ (((fun b hb => (.tail _ (.tail _ (.tail _ (.tail _ (.tail _ (List.mem_append_left _ hb))))))) : ∀ b ∈ L2576, b ∈ (a2574 :: (a2594 :: (a2899 :: (a2920 :: (D2984 :: (L2576 ++ (L2596 ++ (L2901 ++ (L2922 ++ (L3105 ++ []))))))))))) b_ hb_)).2.1) n3247) : ∀ b ∈ L2576, b ≠ D3246)) (OwAll.mono (Same.refl _) (keeps_same e3325) w3306))
                            have w3343 : OwAll G3292 H3333 L2596 (vs2595) ((v2591 : (List (List Int))).map (oL oI)) := (OwAll.mono (Same.refl _) (keeps_mut x3334 ((there_ne (fun b_ hb_ => (S3221.ow b_ (((fun b hb => (.tail _ (.tail _ (.tail _ (.tail _ (.tail _ (List.mem_append_right _ (List.mem_append_left _ hb)))))))) : ∀ b ∈ L2596, b ∈ (a2574 :: (a2594 :: (a2899 :: (a2920 :: (D2984 :: (L2576 ++ (L2596 ++ (L2901 ++ (L2922 ++ (L3105 ++ []))))))))))) b_ hb_)).2.1) n3247) : ∀ b ∈ L2596, b ≠ D3246)) (OwAll.mono (Same.refl _) (keeps_same e3325) w3307))
                            have w3344 : OwAll G3292 H3333 L2901 (vs2900) ((v2896 : (List (List Int))).map (oL oI)) := (OwAll.mono (Same.refl _) (keeps_mut x3334 ((there_ne (fun b_ hb_ => (S3221.ow b_ (((fun b hb => (.tail _ (.tail _ (.tail _ (.tail _ (.tail _ (List.mem_append_right _ (List.mem_append_right _ (List.mem_append_left _ hb))))))))) : ∀ b ∈ L2901, b ∈ (a2574 :: (a2594 :: (a2899 :: (a2920 :: (D2984 :: (L2576 ++ (L2596 ++ (L2901 ++ (L2922 ++ (L3105 ++ []))))))))))) b_ hb_)).2.1) n3247) : ∀ b ∈ L2901, b ≠ D3246)) (OwAll.mono (Same.refl _) (keeps_same e3325) w3308))
                            have w3345 : OwAll G3292 H3333 L2922 (vs2921) ((v2917 : (List (List Int))).map (oL oI)) := (OwAll.mono (Same.refl _) (keeps_mut x3334 ((there_ne (fun b_ hb_ => (S3221.ow b_ (((fun b hb => (.tail _ (.tail _ (.tail _ (.tail _ (.tail _ (List.mem_append_right _ (List.mem_append_right _ (List.mem_append_right _ (List.mem_append_left _ hb)))))))))) : ∀ b ∈ L2922, b ∈ (a2574 :: (a2594 :: (a2899 :: (a2920 :: (D2984 :: (L2576 ++ (L2596 ++ (L2901 ++ (L2922 ++ (L3105 ++ []))))))))))) b_ hb_)).2.1) n3247) : ∀ b ∈ L2922, b ≠ D3246)) (OwAll.mono (Same.refl _) (keeps_same e3325) w3309))
                            have w3346 : OwAll G3292 H3333 L3105 (vs3104) ((bad_3103 : (List (List Int))).map (oL oI)) := (OwAll.mono (Same.refl _) (keeps_mut x3334 ((there_ne (fun b_ hb_ => (S3221.ow b_ (((fun b hb => (.tail _ (.tail _ (.tail _ (.tail _ (.tail _ (List.mem_append_right _ (List.mem_append_right _ (List.mem_append_right _ (List.mem_append_right _ (List.mem_append_left _ hb))))))))))) : ∀ b ∈ L3105, b ∈ (a2574 :: (a2594 :: (a2899 :: (a2920 :: (D2984 :: (L2576 ++ (L2596 ++ (L2901 ++ (L2922 ++ (L3105 ++ []))))))))))) b_ hb_)).2.1) n3247) : ∀ b ∈ L3105, b ≠ D3246)) (OwAll.mono (Same.refl _) (keeps_same e3325) w3310))
                            exact ⟨_, (acc3294 ++ [x3311]), _, (L3297 ++ (p3321 :: ([] : List Addr))), eG3293, (S3336.sub (all_cons (.tail _ (.head _)) (all_app (all_app ((fun b hb => (.tail _ (.tail _ (List.mem_append_left _ hb)))) : ∀ b ∈ L3297, b ∈ (p3321 :: (D3246 :: (L3297 ++ (a2574 :: (a2594 :: (a2899 :: (a2920 :: (D2984 :: (L2576 ++ (L2596 ++ (L2901 ++ (L2922 ++ (L3105 ++ [])))))))))))))) (all_cons (.head _) all_nil)) (all_cons (.tail _ (.tail _ (List.mem_append_right _ (.head _)))) (all_cons (.tail _ (.tail _ (List.mem_append_right _ (.tail _ (.head _))))) (all_cons (.tail _ (.tail _ (List.mem_append_right _ (.tail _ (.tail _ (.head _)))))) (all_cons (.tail _ (.tail _ (List.mem_append_right _ (.tail _ (.tail _ (.tail _ (.head _))))))) (all_cons (.tail _ (.tail _ (List.mem_append_right _ (.tail _ (.tail _ (.tail _ (.tail _ (.head _)))))))) (all_app ((fun b hb => (.tail _ (.tail _ (List.mem_append_right _ (.tail _ (.tail _ (.tail _ (.tail _ (.tail _ (List.mem_append_left _ hb)))))))))) : ∀ b ∈ L2576, b ∈ (p3321 :: (D3246 :: (L3297 ++ (a2574 :: (a2594 :: (a2899 :: (a2920 :: (D2984 :: (L2576 ++ (L2596 ++ (L2901 ++ (L2922 ++ (L3105 ++ [])))))))))))))) (all_app ((fun b hb => (.tail _ (.tail _ (List.mem_append_right _ (.tail _ (.tail _ (.tail _ (.tail _ (.tail _ (List.mem_append_right _ (List.mem_append_left _ hb))))))))))) : ∀ b ∈ L2596, b ∈ (p3321 :: (D3246 :: (L3297 ++ (a2574 :: (a2594 :: (a2899 :: (a2920 :: (D2984 :: (L2576 ++ (L2596 ++ (L2901 ++ (L2922 ++ (L3105 ++ [])))))))))))))) (all_app ((fun b hb => (.tail _ (.tail _ (List.mem_append_right _ (.tail _ (.tail _ (.tail _ (.tail _ (.tail _ (List.mem_append_right _ (List.mem_append_right _ (List.mem_append_left _ hb)))))))))))) : ∀ b ∈ L2901, b ∈ (p3321 :: (D3246 :: (L3297 ++ (a2574 :: (a2594 :: (a2899 :: (a2920 :: (D2984 :: (L2576 ++ (L2596 ++ (L2901 ++ (L2922 ++ (L3105 ++ [])))))))))))))) (all_app ((fun b hb => (.tail _ (.tail _ (List.mem_append_right _ (.tail _ (.tail _ (.tail _ (.tail _ (.tail _ (List.mem_append_right _ (List.mem_append_right _ (List.mem_append_right _ (List.mem_append_left _ hb))))))))))))) : ∀ b ∈ L2922, b ∈ (p3321 :: (D3246 :: (L3297 ++ (a2574 :: (a2594 :: (a2899 :: (a2920 :: (D2984 :: (L2576 ++ (L2596 ++ (L2901 ++ (L2922 ++ (L3105 ++ [])))))))))))))) (all_app ((fun b hb => (.tail _ (.tail _ (List.mem_append_right _ (.tail _ (.tail _ (.tail _ (.tail _ (.tail _ (List.mem_append_right _ (List.mem_append_right _ (List.mem_append_right _ (List.mem_append_right _ (List.mem_append_left _ hb)))))))))))))) : ∀ b ∈ L3105, b ∈ (p3321 :: (D3246 :: (L3297 ++ (a2574 :: (a2594 :: (a2899 :: (a2920 :: (D2984 :: (L2576 ++ (L2596 ++ (L2901 ++ (L2922 ++ (L3105 ++ [])))))))))))))) all_nil))))))))))))), h3337, h3338, h3339, h3340, h3341, h3335, w3342, w3343, w3344, w3345, w3346, (OwAll.mono (Same.refl _) (keeps_mut x3334 ((all_app nd3299 (all_cons (ne_of_none h3291 n3322).symm all_nil)) : ∀ b ∈ (L3297 ++ (p3321 :: ([] : List Addr))), b ≠ D3246)) (OwAll.snocM w3330 (Ow.ints h3327) ((fun b hb => (nm_cons ((there_ne (fun b_ hb_ => (S3290.ow b_ (((fun b hb => (.tail _ (List.mem_append_left _ hb))) : ∀ b ∈ L3297, b ∈ (D3246 :: (L3297 ++ (a2574 :: (a2594 :: (a2899 :: (a2920 :: (D2984 :: (L2576 ++ (L2596 ++ (L2901 ++ (L2922 ++ (L3105 ++ []))))))))))))) b_ hb_)).2.1) n3322) b hb) nm_nil)) : ∀ b ∈ L3297, b ∉ (p3321 :: ([] : List Addr))))), ((all_app nb3298 (all_cons (none_of_same eo3300 n3322) all_nil)) : ∀ b ∈ (L3297 ++ (p3321 :: ([] : List Addr))), H3220 b = none), ((all_app nd3299 (all_cons (ne_of_none h3291 n3322).symm all_nil)) : ∀ b ∈ (L3297 ++ (p3321 :: ([] : List Addr))), b ≠ D3246), (same_mut (Same.trans eo3300 e3325) x3334 n3247), hw⟩
                          intro H3347 hw
                          obtain ⟨G3350, acc3352, vs3353, L3355, eG3351, S3348, h3359, h3360, h3361, h3362, h3363, h3349, w3364, w3365, w3366, w3367, w3368, d3354, nb3356, nd3357, eo3358, hw⟩ := hw
                          have hw := hK3245 _ (cW_mapA0 (by rw [(OwAll.rpA w3364 (encO_L encO_I) S3348.sG).len, List.length_map]) hw)
                          have fr3369 := S3221.free n3247
                          refine ⟨(by show 1 ≤ sizeLine; decide), fun p3370 n3371 => ?_⟩
                          generalize g3372 : upd H3347 p3370 _ = H3373
                          obtain ⟨e3374, h3375⟩ := gen_new n3371 g3372
                          have h3376 : H3373 p3370 = some (.lst (([0] : (List Int)).map V.int)) := h3375
                          have fr3377 := S3348.free n3371
                          have S3378 := S3348.new n3371 e3374 h3376 fr3377
                          obtain ⟨g3379, hw⟩ := cW_grd hw
                          refine ⟨_, rfl, _, _, rfl, rfl, _, _, _, rfl, rfl, h3376, g3379.1, g3379.2.1, (rep_lenM g3379.2.2), fun p3380 n3381 => ?_⟩
                          generalize g3382 : upd H3373 p3380 _ = H3383
                          obtain ⟨e3384, h3385⟩ := gen_new n3381 g3382
                          have h3386 : H3383 p3380 = some (.lst ((repL ([0]) ((12 - (4 + (4 * ((v2557 + x2553) % 2))))) : (List Int)).map V.int)) := rep_map h3385
                          have fr3387 := S3378.free n3381
                          have S3388 := S3378.new n3381 e3384 h3386 fr3387
                          obtain ⟨g3389, hw⟩ := cW_grd hw
                          obtain ⟨g3390, hw⟩ := cW_grd hw
                          have w3391 : OwAll G3350 H3383 L3355 (vs3353) ((acc3352 : (List (List Int))).map (oL oI)) := (OwAll.mono (Same.refl _) (keeps_same e3384) (OwAll.mono (Same.refl _) (keeps_same e3374) d3354))
                          have h3392 := (e3384 _ _ (e3374 _ _ h3349))
                          refine ⟨_, rfl, _, rfl, _, _, rfl, rfl, (divW_lit (by decide) (by decide)), _, rfl, _, _, rfl, rfl, g3389, _, _, _, _, rfl, rfl, h3392, (ixN_len w3391.lenM g3390), ?_⟩
                          obtain ⟨L3393, hL3394, w3395⟩ := OwAll.setM w3391 g3390 (Ow.ints h3386) ((all_cons (fun z => (there_ne (fun b_ hb_ => (S3378.ow b_ (((fun b hb => (.tail _ (.tail _ (List.mem_append_left _ hb)))) : ∀ b ∈ L3355, b ∈ (p3370 :: (D3246 :: (L3355 ++ (a2574 :: (a2594 :: (a2899 :: (a2920 :: (D2984 :: (L2576 ++ (L2596 ++ (L2901 ++ (L2922 ++ (L3105 ++ [])))))))))))))) b_ hb_)).2.1) n3381) _ z rfl) all_nil) : ∀ b ∈ (p3380 :: ([] : List Addr)), b ∉ L3355)
                          generalize g3397 : upd H3383 D3246 _ = H3398
                          obtain ⟨x3399, h3400⟩ := gen_mut g3397
                          have h3401 : H3398 D3246 = some (.lst ((vs3353).set ((ixN (vs3353).length ((((v2557 + x2553) / 45) % (4 + (4 * ((v2557 + x2553) % 2)))))).getD 0) (V.ref p3380))) := h3400
                          have S3402 := S3388.mut1 x3399 (.tail _ (.tail _ (.head _))) h3401
                          have w3396 : OwAll G3350 H3398 L3393 ((vs3353).set ((ixN (vs3353).length ((((v2557 + x2553) / 45) % (4 + (4 * ((v2557 + x2553) % 2)))))).getD 0) (V.ref p3380)) ((setL (acc3352) ((((v2557 + x2553) / 45) % (4 + (4 * ((v2557 + x2553) % 2))))) (repL ([0]) ((12 - (4 + (4 * ((v2557 + x2553) % 2)))))) : (List (List Int))).map (oL oI)) := OwAll.mono (Same.refl _) (keeps_mut x3399 ((fun b hb => ((all_app nd3357 (all_cons (ne_of_none (e3374 _ _ h3349) n3381).symm all_nil)) : ∀ b ∈ (L3355 ++ (p3380 :: ([] : List Addr))), b ≠ D3246) b (hL3394 b hb)) : ∀ b ∈ L3393, b ≠ D3246)) w3395
                          have hw := cW_bnd hw
                          refine ⟨_, rfl, rfl, rfl, G3350, _, _, rfl, S3402.sG, (Rp.hide_nil (rp_mk_list h3401 (OwAll.rpA w3396 (encO_L encO_I) S3402.sG))), cW_call hw (fun v3404 hw H3405 e3406 => ?_) (fun e he => (hE e he).elim)⟩
                          have S3407 := S3402.same e3406
                          refine ⟨_, rfl, ?_⟩
                          refine iteBN (fun c3408 => ?_) (fun c3408 => ?_)
                          · have hw := cW_negB c3408 hw
                            refine iteT ?_
                            have hw := cW_ok hw
                            have hw := hK2555 (.rt _) hw
                            have hw := hK2534 (.rt _) hw
                            have hw := cW_ok hw
                            exact eq_bl (k _) (hK0 _ hw).symm
                          · have hw := cW_pos c3408 hw
                            obtain ⟨g3409, hw⟩ := cW_grd hw
                            obtain ⟨K3412, hK3413, hw⟩ := cW_push hw
                            refine ⟨_, rfl, _, rfl, g3409.1, g3409.2, fun D3414 n3415 => lc_range (lo := 0) (n := Int.toNat ((4 + (4 * ((v2557 + x2553) % 2))))) (fun i H' => ∃ (G' : Hp) (acc3417 : (List (List Int))) (vs3418 : List V), Same G3350 G' ∧ Sep [] H H G' H' (D3414 :: (a2574 :: (a2594 :: (a2899 :: (D3246 :: (D2984 :: (L2576 ++ (L2596 ++ (L2901 ++ (L3393 ++ (L3105 ++ []))))))))))) ∧ H' a2574 = some (.lst (vs2575)) ∧ H' a2594 = some (.lst (vs2595)) ∧ H' a2899 = some (.lst (vs2900)) ∧ H' D3246 = some (.lst ((vs3353).set ((ixN (vs3353).length ((((v2557 + x2553) / 45) % (4 + (4 * ((v2557 + x2553) % 2)))))).getD 0) (V.ref p3380))) ∧ H' D2984 = some (.lst (vs3104)) ∧ H' D3414 = some (.lst vs3418) ∧ OwAll G' H' L2576 (vs2575) ((v2571 : (List (List Int))).map (oL oI)) ∧ OwAll G' H' L2596 (vs2595) ((v2591 : (List (List Int))).map (oL oI)) ∧ OwAll G' H' L2901 (vs2900) ((v2896 : (List (List Int))).map (oL oI)) ∧ OwAll G' H' L3393 ((vs3353).set ((ixN (vs3353).length ((((v2557 + x2553) / 45) % (4 + (4 * ((v2557 + x2553) % 2)))))).getD 0) (V.ref p3380)) ((setL (acc3352) ((((v2557 + x2553) / 45) % (4 + (4 * ((v2557 + x2553) % 2))))) (repL ([0]) ((12 - (4 + (4 * ((v2557 + x2553) % 2)))))) : (List (List Int))).map (oL oI)) ∧ OwAll G' H' L3105 (vs3104) ((bad_3103 : (List (List Int))).map (oL oI)) ∧ RpAll G' vs3418 ((acc3417 : (List (List Int))).map (encL PyData.int)) ∧ Same H3405 H' ∧ cW (mapA (List.drop i (rng (0) (Int.toNat ((4 + (4 * ((v2557 + x2553) % 2))))))) acc3417 (fun x => noEr (F_law_c9 ((4 + (4 * ((v2557 + x2553) % 2)))) x))) K3412 EE) ?_ ?_ ?_⟩
                            · generalize g3419 : upd H3405 D3414 _ = H3420
                              obtain ⟨e3421, h3422⟩ := gen_new n3415 g3419
                              have fr3423 := S3407.free n3415
                              have S3424 := S3407.new n3415 e3421 h3422 fr3423
                              have h3425 := (e3421 _ _ (e3406 _ _ (x3399 _ _ (e3384 _ _ (e3374 _ _ h3359)) (ne_of_none h3222 n3247))))
                              have h3426 := (e3421 _ _ (e3406 _ _ (x3399 _ _ (e3384 _ _ (e3374 _ _ h3360)) (ne_of_none h3223 n3247))))
                              have h3427 := (e3421 _ _ (e3406 _ _ (x3399 _ _ (e3384 _ _ (e3374 _ _ h3361)) (ne_of_none h3224 n3247))))
                              have h3428 := (e3421 _ _ (e3406 _ _ h3401))
                              have h3429 := (e3421 _ _ (e3406 _ _ (x3399 _ _ (e3384 _ _ (e3374 _ _ h3363)) (ne_of_none h3226 n3247))))
                              have w3430 : OwAll G3350 H3420 L2576 (vs2575) ((v2571 : (List (List Int))).map (oL oI)) := (OwAll.mono (Same.refl _) (keeps_same e3421) (OwAll.mono (Same.refl _) (keeps_same e3406) (OwAll.mono (Same.refl _) (keeps_mut x3399 ((there_ne (fun b_ hb_ => (S3221.ow b_ (((fun b hb => (.tail _ (.tail _ (.tail _ (.tail _ (.tail _ (List.mem_append_left _ hb))))))) : ∀ b ∈ L2576, b ∈ (a2574 :: (a2594 :: (a2899 :: (a2920 :: (D2984 :: (L2576 ++ (L2596 ++ (L2901 ++ (L2922 ++ (L3105 ++ []))))))))))) b_ hb_)).2.1) n3247) : ∀ b ∈ L2576, b ≠ D3246)) (OwAll.mono (Same.refl _) (keeps_same e3384) (OwAll.mono (Same.refl _) (keeps_same e3374) w3364)))))
                              have w3431 : OwAll G3350 H3420 L2596 (vs2595) ((v2591 : (List (List Int))).map (oL oI)) := (OwAll.mono (Same.refl _) (keeps_same e3421) (OwAll.mono (Same.refl _) (keeps_same e3406) (OwAll.mono (Same.refl _) (keeps_mut x3399 ((there_ne (fun b_ hb_ => (S3221.ow b_ (((fun b hb => (.tail _ (.tail _ (.tail _ (.tail _ (.tail _ (List.mem_append_right _ (List.mem_append_left _ hb)))))))) : ∀ b ∈ L2596, b ∈ (a2574 :: (a2594 :: (a2899 :: (a2920 :: (D2984 :: (L2576 ++ (L2596 ++ (L2901 ++ (L2922 ++ (L3105 ++ []))))))))))) b_ hb_)).2.1) n3247) : ∀ b ∈ L2596, b ≠ D3246)) (OwAll.mono (Same.refl _) (keeps_same e3384) (OwAll.mono (Same.refl _) (keeps_same e3374) w3365)))))
                              have w3432 : OwAll G3350 H3420 L2901 (vs2900) ((v2896 : (List (List Int))).map (oL oI)) := (OwAll.mono (Same.refl _) (keeps_same e3421) (OwAll.mono (Same.refl _) (keeps_same e3406) (OwAll.mono (Same.refl _) (keeps_mut x3399 ((there_ne (fun b_ hb_ => (S3221.ow b_ (((fun b hb => (.tail _ (.tail _ (.tail _ (.tail _ (.tail _ (List.mem_append_right _ (List.mem_append_right _ (List.mem_append_left _ hb))))))))) : ∀ b ∈ L2901, b ∈ (a2574 :: (a2594 :: (a2899 :: (a2920 :: (D2984 :: (L2576 ++ (L2596 ++ (L2901 ++ (L2922 ++ (L3105 ++ []))))))))))) b_ hb_)).2.1) n3247) : ∀ b ∈ L2901, b ≠ D3246)) (OwAll.mono (Same.refl _) (keeps_same e3384) (OwAll.mono (Same.refl _) (keeps_same e3374) w3366)))))
                              have w3433 : OwAll G3350 H3420 L3393 ((vs3353).set ((ixN (vs3353).length ((((v2557 + x2553) / 45) % (4 + (4 * ((v2557 + x2553) % 2)))))).getD 0) (V.ref p3380)) ((setL (acc3352) ((((v2557 + x2553) / 45) % (4 + (4 * ((v2557 + x2553) % 2))))) (repL ([0]) ((12 - (4 + (4 * ((v2557 + x2553) % 2)))))) : (List (List Int))).map (oL oI)) := (OwAll.mono (Same.refl _) (keeps_same e3421) (OwAll.mono (Same.refl _) (keeps_same e3406) w3396))
                              have w3434 : OwAll G3350 H3420 L3105 (vs3104) ((bad_3103 : (List (List Int))).map (oL oI)) := (OwAll.mono (Same.refl _) (keeps_same e3421) (OwAll.mono (Same.refl _) (keeps_same e3406) (OwAll.mono (Same.refl _) (keeps_mut x3399 ((there_ne (fun b_ hb_ => (S3221.ow b_ (((fun b hb => (.tail _ (.tail _ (.tail _ (.tail _ (.tail _ (List.mem_append_right _ (List.mem_append_right _ (List.mem_append_right _ (List.mem_append_right _ (List.mem_append_left _ hb))))))))))) : ∀ b ∈ L3105, b ∈ (a2574 :: (a2594 :: (a2899 :: (a2920 :: (D2984 :: (L2576 ++ (L2596 ++ (L2901 ++ (L2922 ++ (L3105 ++ []))))))))))) b_ hb_)).2.1) n3247) : ∀ b ∈ L3105, b ≠ D3246)) (OwAll.mono (Same.refl _) (keeps_same e3384) (OwAll.mono (Same.refl _) (keeps_same e3374) w3368)))))
                              exact ⟨_, [], [], Same.refl _, (S3424.sub (all_cons (.head _) (all_cons (.tail _ (.tail _ (.tail _ (.tail _ (List.mem_append_right _ (.head _)))))) (all_cons (.tail _ (.tail _ (.tail _ (.tail _ (List.mem_append_right _ (.tail _ (.head _))))))) (all_cons (.tail _ (.tail _ (.tail _ (.tail _ (List.mem_append_right _ (.tail _ (.tail _ (.head _)))))))) (all_cons (.tail _ (.tail _ (.tail _ (.head _)))) (all_cons (.tail _ (.tail _ (.tail _ (.tail _ (List.mem_append_right _ (.tail _ (.tail _ (.tail _ (.tail _ (.head _)))))))))) (all_app ((fun b hb => (.tail _ (.tail _ (.tail _ (.tail _ (List.mem_append_right _ (.tail _ (.tail _ (.tail _ (.tail _ (.tail _ (List.mem_append_left _ hb)))))))))))) : ∀ b ∈ L2576, b ∈ (D3414 :: (p3380 :: (p3370 :: (D3246 :: (L3355 ++ (a2574 :: (a2594 :: (a2899 :: (a2920 :: (D2984 :: (L2576 ++ (L2596 ++ (L2901 ++ (L2922 ++ (L3105 ++ [])))))))))))))))) (all_app ((fun b hb => (.tail _ (.tail _ (.tail _ (.tail _ (List.mem_append_right _ (.tail _ (.tail _ (.tail _ (.tail _ (.tail _ (List.mem_append_right _ (List.mem_append_left _ hb))))))))))))) : ∀ b ∈ L2596, b ∈ (D3414 :: (p3380 :: (p3370 :: (D3246 :: (L3355 ++ (a2574 :: (a2594 :: (a2899 :: (a2920 :: (D2984 :: (L2576 ++ (L2596 ++ (L2901 ++ (L2922 ++ (L3105 ++ [])))))))))))))))) (all_app ((fun b hb => (.tail _ (.tail _ (.tail _ (.tail _ (List.mem_append_right _ (.tail _ (.tail _ (.tail _ (.tail _ (.tail _ (List.mem_append_right _ (List.mem_append_right _ (List.mem_append_left _ hb)))))))))))))) : ∀ b ∈ L2901, b ∈ (D3414 :: (p3380 :: (p3370 :: (D3246 :: (L3355 ++ (a2574 :: (a2594 :: (a2899 :: (a2920 :: (D2984 :: (L2576 ++ (L2596 ++ (L2901 ++ (L2922 ++ (L3105 ++ [])))))))))))))))) (all_app (fun b hb => ((all_app ((fun b hb => (.tail _ (.tail _ (.tail _ (.tail _ (List.mem_append_left _ hb)))))) : ∀ b ∈ L3355, b ∈ (D3414 :: (p3380 :: (p3370 :: (D3246 :: (L3355 ++ (a2574 :: (a2594 :: (a2899 :: (a2920 :: (D2984 :: (L2576 ++ (L2596 ++ (L2901 ++ (L2922 ++ (L3105 ++ [])))))))))))))))) (all_cons (.tail _ (.head _)) all_nil)) : ∀ b ∈ (L3355 ++ (p3380 :: ([] : List Addr))), b ∈ (D3414 :: (p3380 :: (p3370 :: (D3246 :: (L3355 ++ (a2574 :: (a2594 :: (a2899 :: (a2920 :: (D2984 :: (L2576 ++ (L2596 ++ (L2901 ++ (L2922 ++ (L3105 ++ [])))))))))))))))) b (hL3394 b hb)) (all_app ((fun b hb => (.tail _ (.tail _ (.tail _ (.tail _ (List.mem_append_right _ (.tail _ (.tail _ (.tail _ (.tail _ (.tail _ (List.mem_append_right _ (List.mem_append_right _ (List.mem_append_right _ (List.mem_append_right _ (List.mem_append_left _ hb)))))))))))))))) : ∀ b ∈ L3105, b ∈ (D3414 :: (p3380 :: (p3370 :: (D3246 :: (L3355 ++ (a2574 :: (a2594 :: (a2899 :: (a2920 :: (D2984 :: (L2576 ++ (L2596 ++ (L2901 ++ (L2922 ++ (L3105 ++ [])))))))))))))))) all_nil)))))))))))), h3425, h3426, h3427, h3428, h3429, h3422, w3430, w3431, w3432, w3433, w3434, RpAll.nil, e3421, hw⟩
                            · intro i H3435 hi hw
                              obtain ⟨G3438, acc3440, vs3441, eG3439, S3436, h3447, h3448, h3449, h3450, h3451, h3437, w3452, w3453, w3454, w3455, w3456, d3442, eo3446, hw⟩ := hw
                              obtain ⟨z3457, hw⟩ := cW_mapA (rng_get hi) hw
                              generalize (0 + (i : Int)) = x3458 at hw ⊢
                              have hw := cW_noEr hw
                              have hw : cW (F_law_c9 ((4 + (4 * ((v2557 + x2553) % 2)))) (x3458)) _ (fun _ => False) := hw
                              unfold F_law_c9 at hw
                              refine ⟨rfl, ?_⟩
                              refine tyes_go ?_
                              refine ⟨(by show 1 ≤ sizeLine; decide), fun p3460 n3461 => ?_⟩
                              generalize g3462 : upd H3435 p3460 _ = H3463
                              obtain ⟨e3464, h3465⟩ := gen_new n3461 g3462
                              have h3466 : H3463 p3460 = some (.lst (([0] : (List Int)).map V.int)) := h3465
                              have fr3467 := S3436.free n3461
                              have S3468 := S3436.new n3461 e3464 h3466 fr3467
                              obtain ⟨g3469, hw⟩ := cW_grd hw
                              refine ⟨_, rfl, _, _, rfl, rfl, _, _, _, rfl, rfl, h3466, g3469.1, g3469.2.1, (rep_lenM g3469.2.2), fun p3470 n3471 => ?_⟩
                              generalize g3472 : upd H3463 p3470 _ = H3473
                              obtain ⟨e3474, h3475⟩ := gen_new n3471 g3472
                              have h3476 : H3473 p3470 = some (.lst ((repL ([0]) ((12 - (4 + (4 * ((v2557 + x2553) % 2))))) : (List Int)).map V.int)) := rep_map h3475
                              have fr3477 := S3468.free n3471
                              have S3478 := S3468.new n3471 e3474 h3476 fr3477
                              obtain ⟨G3479, eG3480, hg3481, S3482⟩ := Sep.freeze (O' := (p3460 :: (D3414 :: (a2574 :: (a2594 :: (a2899 :: (D3246 :: (D2984 :: (L2576 ++ (L2596 ++ (L2901 ++ (L3393 ++ (L3105 ++ []))))))))))))) S3478 (.head _) h3476 fr3477 ((all_cons ⟨(.tail _ (.head _)), (ne_of_none h3466 n3471)⟩ (all_cons ⟨(.tail _ (.tail _ (.head _))), (ne_of_none (e3464 _ _ h3437) n3471)⟩ (all_cons ⟨(.tail _ (.tail _ (.tail _ (.head _)))), (ne_of_none (e3464 _ _ h3447) n3471)⟩ (all_cons ⟨(.tail _ (.tail _ (.tail _ (.tail _ (.head _))))), (ne_of_none (e3464 _ _ h3448) n3471)⟩ (all_cons ⟨(.tail _ (.tail _ (.tail _ (.tail _ (.tail _ (.head _)))))), (ne_of_none (e3464 _ _ h3449) n3471)⟩ (all_cons ⟨(.tail _ (.tail _ (.tail _ (.tail _ (.tail _ (.tail _ (.head _))))))), (ne_of_none (e3464 _ _ h3450) n3471)⟩ (all_cons ⟨(.tail _ (.tail _ (.tail _ (.tail _ (.tail _ (.tail _ (.tail _ (.head _)))))))), (ne_of_none (e3464 _ _ h3451) n3471)⟩ (all_app (fun b hb => ⟨((fun b hb => (.tail _ (.tail _ (.tail _ (.tail _ (.tail _ (.tail _ (.tail _ (.tail _ (List.mem_append_left _ hb)))))))))) : ∀ b ∈ L2576, b ∈ (p3470 :: (p3460 :: (D3414 :: (a2574 :: (a2594 :: (a2899 :: (D3246 :: (D2984 :: (L2576 ++ (L2596 ++ (L2901 ++ (L3393 ++ (L3105 ++ [])))))))))))))) b hb, (there_ne (fun b_ hb_ => (S3468.ow b_ (((fun b hb => (.tail _ (.tail _ (.tail _ (.tail _ (.tail _ (.tail _ (.tail _ (List.mem_append_left _ hb))))))))) : ∀ b ∈ L2576, b ∈ (p3460 :: (D3414 :: (a2574 :: (a2594 :: (a2899 :: (D3246 :: (D2984 :: (L2576 ++ (L2596 ++ (L2901 ++ (L3393 ++ (L3105 ++ []))))))))))))) b_ hb_)).2.1) n3471) b hb⟩) (all_app (fun b hb => ⟨((fun b hb => (.tail _ (.tail _ (.tail _ (.tail _ (.tail _ (.tail _ (.tail _ (.tail _ (List.mem_append_right _ (List.mem_append_left _ hb))))))))))) : ∀ b ∈ L2596, b ∈ (p3470 :: (p3460 :: (D3414 :: (a2574 :: (a2594 :: (a2899 :: (D3246 :: (D2984 :: (L2576 ++ (L2596 ++ (L2901 ++ (L3393 ++ (L3105 ++ [])))))))))))))) b hb, (there_ne (fun b_ hb_ => (S3468.ow b_ (((fun b hb => (.tail _ (.tail _ (.tail _ (.tail _ (.tail _ (.tail _ (.tail _ (List.mem_append_right _ (List.mem_append_left _ hb)))))))))) : ∀ b ∈ L2596, b ∈ (p3460 :: (D3414 :: (a2574 :: (a2594 :: (a2899 :: (D3246 :: (D2984 :: (L2576 ++ (L2596 ++ (L2901 ++ (L3393 ++ (L3105 ++ []))))))))))))) b_ hb_)).2.1) n3471) b hb⟩) (all_app (fun b hb => ⟨((fun b hb => (.tail _ (.tail _ (.tail _ (.tail _ (.tail _ (.tail _ (.tail _ (.tail _ (List.mem_append_right _ (List.mem_append_right _ (List.mem_append_left _ hb)))))))))))) : ∀ b ∈ L2901, b ∈ (p3470 :: (p3460 :: (D3414 :: (a2574 :: (a2594 :: (a2899 :: (D3246 :: (D2984 :: (L2576 ++ (L2596 ++ (L2901 ++ (L3393 ++ (L3105 ++ [])))))))))))))) b hb, (there_ne (fun b_ hb_ => (S3468.ow b_ (((fun b hb => (.tail _ (.tail _ (.tail _ (.tail _ (.tail _ (.tail _ (.tail _ (List.mem_append_right _ (List.mem_append_right _ (List.mem_append_left _ hb))))))))))) : ∀ b ∈ L2901, b ∈ (p3460 :: (D3414 :: (a2574 :: (a2594 :: (a2899 :: (D3246 :: (D2984 :: (L2576 ++ (L2596 ++ (L2901 ++ (L3393 ++ (L3105 ++ []))))))))))))) b_ hb_)).2.1) n3471) b hb⟩) (all_app (fun b hb => ⟨((fun b hb => (.tail _ (.tail _ (.tail _ (.tail _ (.tail _ (.tail _ (.tail _ (.tail _ (List.mem_append_right _ (List.mem_append_right _ (List.mem_append_right _ (List.mem_append_left _ hb))))))))))))) : ∀ b ∈ L3393, b ∈ (p3470 :: (p3460 :: (D3414 :: (a2574 :: (a2594 :: (a2899 :: (D3246 :: (D2984 :: (L2576 ++ (L2596 ++ (L2901 ++ (L3393 ++ (L3105 ++ [])))))))))))))) b hb, (there_ne (fun b_ hb_ => (S3468.ow b_ (((fun b hb => (.tail _ (.tail _ (.tail _ (.tail _ (.tail _ (.tail _ (.tail _ (List.mem_append_right _ (List.mem_append_right _ (List.mem_append_right _ (List.mem_append_left _ hb)))))))))))) : ∀ b ∈ L3393, b ∈ (p3460 :: (D3414 :: (a2574 :: (a2594 :: (a2899 :: (D3246 :: (D2984 :: (L2576 ++ (L2596 ++ (L2901 ++ (L3393 ++ (L3105 ++ []))))))))))))) b_ hb_)).2.1) n3471) b hb⟩) (all_app (fun b hb => ⟨((fun b hb => (.tail _ (.tail _ (.tail _ (.tail _ (.tail _ (.tail _ (.tail _ (.tail _ (List.mem_append_right _ (List.mem_append_right _ (List.mem_append_right _ (List.mem_append_right _ (List.mem_append_left _ hb)))))))))))))) : ∀ b ∈ L3105, b ∈ (p3470 :: (p3460 :: (D3414 :: (a2574 :: (a2594 :: (a2899 :: (D3246 :: (D2984 :: (L2576 ++ (L2596 ++ (L2901 ++ (L3393 ++ (L3105 ++ [])))))))))))))) b hb, (there_ne (fun b_ hb_ => (S3468.ow b_ (((fun b hb => (.tail _ (.tail _ (.tail _ (.tail _ (.tail _ (.tail _ (.tail _ (List.mem_append_right _ (List.mem_append_right _ (List.mem_append_right _ (List.mem_append_right _ (List.mem_append_left _ hb))))))))))))) : ∀ b ∈ L3105, b ∈ (p3460 :: (D3414 :: (a2574 :: (a2594 :: (a2899 :: (D3246 :: (D2984 :: (L2576 ++ (L2596 ++ (L2901 ++ (L3393 ++ (L3105 ++ []))))))))))))) b_ hb_)).2.1) n3471) b hb⟩) all_nil)))))))))))))
                              have h3483 := (e3474 _ _ (e3464 _ _ h3437))
                              refine ⟨_, h3483, (app_len (RpAll.mono eG3480 d3442) z3457), ?_⟩
                              generalize g3484 : upd H3473 D3414 _ = H3485
                              obtain ⟨x3486, h3487⟩ := gen_mut g3484
                              have S3488 := S3482.mut1 x3486 (.tail _ (.head _)) h3487
                              have hw := cW_ok hw
                              have h3489 := (x3486 _ _ (e3474 _ _ (e3464 _ _ h3447)) (ne_of_none (e3406 _ _ (x3399 _ _ (e3384 _ _ (e3374 _ _ h3359)) (ne_of_none h3222 n3247))) n3415))
                              have h3490 := (x3486 _ _ (e3474 _ _ (e3464 _ _ h3448)) (ne_of_none (e3406 _ _ (x3399 _ _ (e3384 _ _ (e3374 _ _ h3360)) (ne_of_none h3223 n3247))) n3415))
                              have h3491 := (x3486 _ _ (e3474 _ _ (e3464 _ _ h3449)) (ne_of_none (e3406 _ _ (x3399 _ _ (e3384 _ _ (e3374 _ _ h3361)) (ne_of_none h3224 n3247))) n3415))
                              have h3492 := (x3486 _ _ (e3474 _ _ (e3464 _ _ h3450)) (ne_of_none (e3406 _ _ h3401) n3415))
                              have h3493 := (x3486 _ _ (e3474 _ _ (e3464 _ _ h3451)) (ne_of_none (e3406 _ _ (x3399 _ _ (e3384 _ _ (e3374 _ _ h3363)) (ne_of_none h3226 n3247))) n3415))
                              have w3494 : OwAll G3479 H3485 L2576 (vs2575) ((v2571 : (List (List Int))).map (oL oI)) := (OwAll.mono eG3480 keeps_refl (OwAll.mono (Same.refl _) (keeps_mut x3486 ((there_ne (fun b_ hb_ => (S3407.ow b_ (((fun b hb => (.tail _ (.tail _ (.tail _ (List.mem_append_right _ (.tail _ (.tail _ (.tail _ (.tail _ (.tail _ (List.mem_append_left _ hb))))))))))) : ∀ b ∈ L2576, b ∈ (p3380 :: (p3370 :: (D3246 :: (L3355 ++ (a2574 :: (a2594 :: (a2899 :: (a2920 :: (D2984 :: (L2576 ++ (L2596 ++ (L2901 ++ (L2922 ++ (L3105 ++ []))))))))))))))) b_ hb_)).2.1) n3415) : ∀ b ∈ L2576, b ≠ D3414)) (OwAll.mono (Same.refl _) (keeps_same e3474) (OwAll.mono (Same.refl _) (keeps_same e3464) w3452))))
                              have w3495 : OwAll G3479 H3485 L2596 (vs2595) ((v2591 : (List (List Int))).map (oL oI)) := (OwAll.mono eG3480 keeps_refl (OwAll.mono (Same.refl _) (keeps_mut x3486 ((there_ne (fun b_ hb_ => (S3407.ow b_ (((fun b hb => (.tail _ (.tail _ (.tail _ (List.mem_append_right _ (.tail _ (.tail _ (.tail _ (.tail _ (.tail _ (List.mem_append_right _ (List.mem_append_left _ hb)))))))))))) : ∀ b ∈ L2596, b ∈ (p3380 :: (p3370 :: (D3246 :: (L3355 ++ (a2574 :: (a2594 :: (a2899 :: (a2920 :: (D2984 :: (L2576 ++ (L2596 ++ (L2901 ++ (L2922 ++ (L3105 ++ []))))))))))))))) b_ hb_)).2.1) n3415) : ∀ b ∈ L2596, b ≠ D3414)) (OwAll.mono (Same.refl _) (keeps_same e3474) (OwAll.mono (Same.refl _) (keeps_same e3464) w3453))))
                              have w3496 : OwAll G3479 H3485 L2901 (vs2900) ((v2896 : (List (List Int))).map (oL oI)) := (OwAll.mono eG3480 keeps_refl (OwAll.mono (Same.refl _) (keeps_mut x3486 ((there_ne (fun b_ hb_ => (S3407.ow b_ (((fun b hb => (.tail _ (.tail _ (.tail _ (List.mem_append_right _ (.tail _ (.tail _ (.tail _ (.tail _ (.tail _ (List.mem_append_right _ (List.mem_append_right _ (List.mem_append_left _ hb))))))))))))) : ∀ b ∈ L2901, b ∈ (p3380 :: (p3370 :: (D3246 :: (L3355 ++ (a2574 :: (a2594 :: (a2899 :: (a2920 :: (D2984 :: (L2576 ++ (L2596 ++ (L2901 ++ (L2922 ++ (L3105 ++ []))))))))))))))) b_ hb_)).2.1) n3415) : ∀ b ∈ L2901, b ≠ D3414)) (OwAll.mono (Same.refl _) (keeps_same e3474) (OwAll.mono (Same.refl _) (keeps_same e3464) w3454))))
                              have w3497 : OwAll G3479 H3485 L3393 ((vs3353).set ((ixN (vs3353).length ((((v2557 + x2553) / 45) % (4 + (4 * ((v2557 + x2553) % 2)))))).getD 0) (V.ref p3380)) ((setL (acc3352) ((((v2557 + x2553) / 45) % (4 + (4 * ((v2557 + x2553) % 2))))) (repL ([0]) ((12 - (4 + (4 * ((v2557 + x2553) % 2)))))) : (List (List Int))).map (oL oI)) := (OwAll.mono eG3480 keeps_refl (OwAll.mono (Same.refl _) (keeps_mut x3486 ((fun b hb => ((all_app (there_ne (fun b_ hb_ => (S3407.ow b_ (((fun b hb => (.tail _ (.tail _ (.tail _ (List.mem_append_left _ hb))))) : ∀ b ∈ L3355, b ∈ (p3380 :: (p3370 :: (D3246 :: (L3355 ++ (a2574 :: (a2594 :: (a2899 :: (a2920 :: (D2984 :: (L2576 ++ (L2596 ++ (L2901 ++ (L2922 ++ (L3105 ++ []))))))))))))))) b_ hb_)).2.1) n3415) (all_cons (ne_of_none (e3406 _ _ (x3399 _ _ h3386 (ne_of_none (e3374 _ _ h3349) n3381).symm)) n3415) all_nil)) : ∀ b ∈ (L3355 ++ (p3380 :: ([] : List Addr))), b ≠ D3414) b (hL3394 b hb)) : ∀ b ∈ L3393, b ≠ D3414)) (OwAll.mono (Same.refl _) (keeps_same e3474) (OwAll.mono (Same.refl _) (keeps_same e3464) w3455))))
                              have w3498 : OwAll G3479 H3485 L3105 (vs3104) ((bad_3103 : (List (List Int))).map (oL oI)) := (OwAll.mono eG3480 keeps_refl (OwAll.mono (Same.refl _) (keeps_mut x3486 ((there_ne (fun b_ hb_ => (S3407.ow b_ (((fun b hb => (.tail _ (.tail _ (.tail _ (List.mem_append_right _ (.tail _ (.tail _ (.tail _ (.tail _ (.tail _ (List.mem_append_right _ (List.mem_append_right _ (List.mem_append_right _ (List.mem_append_right _ (List.mem_append_left _ hb))))))))))))))) : ∀ b ∈ L3105, b ∈ (p3380 :: (p3370 :: (D3246 :: (L3355 ++ (a2574 :: (a2594 :: (a2899 :: (a2920 :: (D2984 :: (L2576 ++ (L2596 ++ (L2901 ++ (L2922 ++ (L3105 ++ []))))))))))))))) b_ hb_)).2.1) n3415) : ∀ b ∈ L3105, b ≠ D3414)) (OwAll.mono (Same.refl _) (keeps_same e3474) (OwAll.mono (Same.refl _) (keeps_same e3464) w3456))))
                              exact ⟨_, (acc3440 ++ [repL ([0]) ((12 - (4 + (4 * ((v2557 + x2553) % 2)))))]), _, (Same.trans eG3439 eG3480), (S3488.sub (all_cons (.tail _ (.head _)) (all_cons (.tail _ (.tail _ (.head _))) (all_cons (.tail _ (.tail _ (.tail _ (.head _)))) (all_cons (.tail _ (.tail _ (.tail _ (.tail _ (.head _))))) (all_cons (.tail _ (.tail _ (.tail _ (.tail _ (.tail _ (.head _)))))) (all_cons (.tail _ (.tail _ (.tail _ (.tail _ (.tail _ (.tail _ (.head _))))))) (all_app ((fun b hb => (.tail _ (.tail _ (.tail _ (.tail _ (.tail _ (.tail _ (.tail _ (List.mem_append_left _ hb))))))))) : ∀ b ∈ L2576, b ∈ (p3460 :: (D3414 :: (a2574 :: (a2594 :: (a2899 :: (D3246 :: (D2984 :: (L2576 ++ (L2596 ++ (L2901 ++ (L3393 ++ (L3105 ++ []))))))))))))) (all_app ((fun b hb => (.tail _ (.tail _ (.tail _ (.tail _ (.tail _ (.tail _ (.tail _ (List.mem_append_right _ (List.mem_append_left _ hb)))))))))) : ∀ b ∈ L2596, b ∈ (p3460 :: (D3414 :: (a2574 :: (a2594 :: (a2899 :: (D3246 :: (D2984 :: (L2576 ++ (L2596 ++ (L2901 ++ (L3393 ++ (L3105 ++ []))))))))))))) (all_app ((fun b hb => (.tail _ (.tail _ (.tail _ (.tail _ (.tail _ (.tail _ (.tail _ (List.mem_append_right _ (List.mem_append_right _ (List.mem_append_left _ hb))))))))))) : ∀ b ∈ L2901, b ∈ (p3460 :: (D3414 :: (a2574 :: (a2594 :: (a2899 :: (D3246 :: (D2984 :: (L2576 ++ (L2596 ++ (L2901 ++ (L3393 ++ (L3105 ++ []))))))))))))) (all_app ((fun b hb => (.tail _ (.tail _ (.tail _ (.tail _ (.tail _ (.tail _ (.tail _ (List.mem_append_right _ (List.mem_append_right _ (List.mem_append_right _ (List.mem_append_left _ hb)))))))))))) : ∀ b ∈ L3393, b ∈ (p3460 :: (D3414 :: (a2574 :: (a2594 :: (a2899 :: (D3246 :: (D2984 :: (L2576 ++ (L2596 ++ (L2901 ++ (L3393 ++ (L3105 ++ []))))))))))))) (all_app ((fun b hb => (.tail _ (.tail _ (.tail _ (.tail _ (.tail _ (.tail _ (.tail _ (List.mem_append_right _ (List.mem_append_right _ (List.mem_append_right _ (List.mem_append_right _ (List.mem_append_left _ hb))))))))))))) : ∀ b ∈ L3105, b ∈ (p3460 :: (D3414 :: (a2574 :: (a2594 :: (a2899 :: (D3246 :: (D2984 :: (L2576 ++ (L2596 ++ (L2901 ++ (L3393 ++ (L3105 ++ []))))))))))))) all_nil)))))))))))), h3489, h3490, h3491, h3492, h3493, h3487, w3494, w3495, w3496, w3497, w3498, (app_map (RpAll.mono eG3480 d3442) (RpAll.one (rp_mk_ints hg3481))), (same_mut (Same.trans (Same.trans eo3446 e3464) e3474) x3486 n3415), hw⟩
                            intro H3499 hw
                            obtain ⟨G3502, acc3504, vs3505, eG3503, S3500, h3511, h3512, h3513, h3514, h3515, h3501, w3516, w3517, w3518, w3519, w3520, d3506, eo3510, hw⟩ := hw
                            have hw := hK3413 _ (cW_mapA0 (rng_len _ _).symm hw)
                            have fr3521 := S3407.free n3415
                            refine ⟨rfl, rfl, G3502, _, _, rfl, S3500.sG, (Rp.hide_nil (rp_mk_list h3501 (RpAll.mono S3500.sG d3506))), cW_call hw (fun v3522 hw H3523 e3524 => ?_) (fun e he => (hE e he).elim)⟩
                            have S3525 := S3500.same e3524
                            refine ⟨_, rfl, ?_⟩
                            refine iteBN (fun c3526 => ?_) (fun c3526 => ?_)
                            · have hw := cW_negB c3526 hw
                              have hw := cW_ok hw
                              have hw := hK2555 (.rt _) hw
                              have hw := hK2534 (.rt _) hw
                              have hw := cW_ok hw
                              exact eq_bl (k _) (hK0 _ hw).symm
                            · have hw := cW_pos c3526 hw
                              refine ⟨_, rfl, _, _, rfl, rfl, (divW_lit (by decide) (by decide)), _, _, rfl, rfl, (show (0 : Int) < 12 by decide), ?_⟩
                              have hw := cW_bnd hw
                              refine ⟨fun σ H' => ∃ (wrong_3530 : Int) (G' : Hp), σ = [some (V.ref a_script), some (V.int (x2553)), some (V.int ((v2557 + x2553))), some (V.int ((4 + (4 * ((v2557 + x2553) % 2))))), some (V.int ((itD ([1, 255, 4095, 1000000000]) ((((v2557 + x2553) / 2) % 4))))), some (V.ref a2574), some (V.str ((PyData.shown ((encL (encL PyData.int)) (v2571))))), some (V.ref a2594), some (V.int ((maxL (acc2802)))), u2824, u2825, some (V.ref a2899), some (V.ref D3246), some (V.ref D2984), some (V.int wrong_3530), none] ∧ Same G3502 G' ∧ Sep [] H H G' H' (a2574 :: (a2594 :: (a2899 :: (D3246 :: (D2984 :: (L2576 ++ (L2596 ++ (L2901 ++ (L3393 ++ (L3105 ++ [])))))))))) ∧ H' a2574 = some (.lst (vs2575)) ∧ H' a2594 = some (.lst (vs2595)) ∧ H' a2899 = some (.lst (vs2900)) ∧ H' D3246 = some (.lst ((vs3353).set ((ixN (vs3353).length ((((v2557 + x2553) / 45) % (4 + (4 * ((v2557 + x2553) % 2)))))).getD 0) (V.ref p3380))) ∧ H' D2984 = some (.lst (vs3104)) ∧ OwAll G' H' L2576 (vs2575) ((v2571 : (List (List Int))).map (oL oI)) ∧ OwAll G' H' L2596 (vs2595) ((v2591 : (List (List Int))).map (oL oI)) ∧ OwAll G' H' L2901 (vs2900) ((v2896 : (List (List Int))).map (oL oI)) ∧ OwAll G' H' L3393 ((vs3353).set ((ixN (vs3353).length ((((v2557 + x2553) / 45) % (4 + (4 * ((v2557 + x2553) % 2)))))).getD 0) (V.ref p3380)) ((setL (acc3352) ((((v2557 + x2553) / 45) % (4 + (4 * ((v2557 + x2553) % 2))))) (repL ([0]) ((12 - (4 + (4 * ((v2557 + x2553) % 2)))))) : (List (List Int))).map (oL oI)) ∧ OwAll G' H' L3105 (vs3104) ((bad_3103 : (List (List Int))).map (oL oI)) ∧ cW (F_law_k10 (bad_3103) wrong_3530) K2554 EE, ?_, ?_⟩
                              · obtain ⟨K3531, hK3532, hw⟩ := cW_push hw
                                refine ⟨_, rfl, _, _, rfl, rfl, _, rfl, ?_⟩
                                refine iteD (fun c3533 => ?_) (fun c3533 => ?_)
                                · have hw := cW_pos c3533 hw
                                  refine iteT ?_
                                  have hw := cW_ok hw
                                  have hw := hK3532 _ hw
                                  have h3534 := (e3524 _ _ h3511)
                                  have h3535 := (e3524 _ _ h3512)
                                  have h3536 := (e3524 _ _ h3513)
                                  have h3537 := (e3524 _ _ h3514)
                                  have h3538 := (e3524 _ _ h3515)
                                  have w3539 : OwAll G3502 H3523 L2576 (vs2575) ((v2571 : (List (List Int))).map (oL oI)) := (OwAll.mono (Same.refl _) (keeps_same e3524) w3516)
                                  have w3540 : OwAll G3502 H3523 L2596 (vs2595) ((v2591 : (List (List Int))).map (oL oI)) := (OwAll.mono (Same.refl _) (keeps_same e3524) w3517)
                                  have w3541 : OwAll G3502 H3523 L2901 (vs2900) ((v2896 : (List (List Int))).map (oL oI)) := (OwAll.mono (Same.refl _) (keeps_same e3524) w3518)
                                  have w3542 : OwAll G3502 H3523 L3393 ((vs3353).set ((ixN (vs3353).length ((((v2557 + x2553) / 45) % (4 + (4 * ((v2557 + x2553) % 2)))))).getD 0) (V.ref p3380)) ((setL (acc3352) ((((v2557 + x2553) / 45) % (4 + (4 * ((v2557 + x2553) % 2))))) (repL ([0]) ((12 - (4 + (4 * ((v2557 + x2553) % 2)))))) : (List (List Int))).map (oL oI)) := (OwAll.mono (Same.refl _) (keeps_same e3524) w3519)
                                  have w3543 : OwAll G3502 H3523 L3105 (vs3104) ((bad_3103 : (List (List Int))).map (oL oI)) := (OwAll.mono (Same.refl _) (keeps_same e3524) w3520)
                                  exact ⟨(0), _, rfl, (Same.refl _), (S3525.sub (all_cons (.tail _ (.head _)) (all_cons (.tail _ (.tail _ (.head _))) (all_cons (.tail _ (.tail _ (.tail _ (.head _)))) (all_cons (.tail _ (.tail _ (.tail _ (.tail _ (.head _))))) (all_cons (.tail _ (.tail _ (.tail _ (.tail _ (.tail _ (.head _)))))) (all_app ((fun b hb => (.tail _ (.tail _ (.tail _ (.tail _ (.tail _ (.tail _ (List.mem_append_left _ hb)))))))) : ∀ b ∈ L2576, b ∈ (D3414 :: (a2574 :: (a2594 :: (a2899 :: (D3246 :: (D2984 :: (L2576 ++ (L2596 ++ (L2901 ++ (L3393 ++ (L3105 ++ [])))))))))))) (all_app ((fun b hb => (.tail _ (.tail _ (.tail _ (.tail _ (.tail _ (.tail _ (List.mem_append_right _ (List.mem_append_left _ hb))))))))) : ∀ b ∈ L2596, b ∈ (D3414 :: (a2574 :: (a2594 :: (a2899 :: (D3246 :: (D2984 :: (L2576 ++ (L2596 ++ (L2901 ++ (L3393 ++ (L3105 ++ [])))))))))))) (all_app ((fun b hb => (.tail _ (.tail _ (.tail _ (.tail _ (.tail _ (.tail _ (List.mem_append_right _ (List.mem_append_right _ (List.mem_append_left _ hb)))))))))) : ∀ b ∈ L2901, b ∈ (D3414 :: (a2574 :: (a2594 :: (a2899 :: (D3246 :: (D2984 :: (L2576 ++ (L2596 ++ (L2901 ++ (L3393 ++ (L3105 ++ [])))))))))))) (all_app ((fun b hb => (.tail _ (.tail _ (.tail _ (.tail _ (.tail _ (.tail _ (List.mem_append_right _ (List.mem_append_right _ (List.mem_append_right _ (List.mem_append_left _ hb))))))))))) : ∀ b ∈ L3393, b ∈ (D3414 :: (a2574 :: (a2594 :: (a2899 :: (D3246 :: (D2984 :: (L2576 ++ (L2596 ++ (L2901 ++ (L3393 ++ (L3105 ++ [])))))))))))) (all_app ((fun b hb => (.tail _ (.tail _ (.tail _ (.tail _ (.tail _ (.tail _ (List.mem_append_right _ (List.mem_append_right _ (List.mem_append_right _ (List.mem_append_right _ (List.mem_append_left _ hb)))))))))))) : ∀ b ∈ L3105, b ∈ (D3414 :: (a2574 :: (a2594 :: (a2899 :: (D3246 :: (D2984 :: (L2576 ++ (L2596 ++ (L2901 ++ (L3393 ++ (L3105 ++ [])))))))))))) all_nil))))))))))), h3534, h3535, h3536, h3537, h3538, w3539, w3540, w3541, w3542, w3543, hw⟩
                                · have hw := cW_neg c3533 hw
                                  refine ⟨_, rfl, _, _, rfl, rfl, _, rfl, ?_⟩
                                  refine iteD (fun c3544 => ?_) (fun c3544 => ?_)
                                  · have hw := cW_pos c3544 hw
                                    have hw := cW_ok hw
                                    have hw := hK3532 _ hw
                                    have h3545 := (e3524 _ _ h3511)
                                    have h3546 := (e3524 _ _ h3512)
                                    have h3547 := (e3524 _ _ h3513)
                                    have h3548 := (e3524 _ _ h3514)
                                    have h3549 := (e3524 _ _ h3515)
                                    have w3550 : OwAll G3502 H3523 L2576 (vs2575) ((v2571 : (List (List Int))).map (oL oI)) := (OwAll.mono (Same.refl _) (keeps_same e3524) w3516)
                                    have w3551 : OwAll G3502 H3523 L2596 (vs2595) ((v2591 : (List (List Int))).map (oL oI)) := (OwAll.mono (Same.refl _) (keeps_same e3524) w3517)
                                    have w3552 : OwAll G3502 H3523 L2901 (vs2900) ((v2896 : (List (List Int))).map (oL oI)) := (OwAll.mono (Same.refl _) (keeps_same e3524) w3518)
                                    have w3553 : OwAll G3502 H3523 L3393 ((vs3353).set ((ixN (vs3353).length ((((v2557 + x2553) / 45) % (4 + (4 * ((v2557 + x2553) % 2)))))).getD 0) (V.ref p3380)) ((setL (acc3352) ((((v2557 + x2553) / 45) % (4 + (4 * ((v2557 + x2553) % 2))))) (repL ([0]) ((12 - (4 + (4 * ((v2557 + x2553) % 2)))))) : (List (List Int))).map (oL oI)) := (OwAll.mono (Same.refl _) (keeps_same e3524) w3519)
                                    have w3554 : OwAll G3502 H3523 L3105 (vs3104) ((bad_3103 : (List (List Int))).map (oL oI)) := (OwAll.mono (Same.refl _) (keeps_same e3524) w3520)
                                    exact ⟨(0), _, rfl, (Same.refl _), (S3525.sub (all_cons (.tail _ (.head _)) (all_cons (.tail _ (.tail _ (.head _))) (all_cons (.tail _ (.tail _ (.tail _ (.head _)))) (all_cons (.tail _ (.tail _ (.tail _ (.tail _ (.head _))))) (all_cons (.tail _ (.tail _ (.tail _ (.tail _ (.tail _ (.head _)))))) (all_app ((fun b hb => (.tail _ (.tail _ (.tail _ (.tail _ (.tail _ (.tail _ (List.mem_append_left _ hb)))))))) : ∀ b ∈ L2576, b ∈ (D3414 :: (a2574 :: (a2594 :: (a2899 :: (D3246 :: (D2984 :: (L2576 ++ (L2596 ++ (L2901 ++ (L3393 ++ (L3105 ++ [])))))))))))) (all_app ((fun b hb => (.tail _ (.tail _ (.tail _ (.tail _ (.tail _ (.tail _ (List.mem_append_right _ (List.mem_append_left _ hb))))))))) : ∀ b ∈ L2596, b ∈ (D3414 :: (a2574 :: (a2594 :: (a2899 :: (D3246 :: (D2984 :: (L2576 ++ (L2596 ++ (L2901 ++ (L3393 ++ (L3105 ++ [])))))))))))) (all_app ((fun b hb => (.tail _ (.tail _ (.tail _ (.tail _ (.tail _ (.tail _ (List.mem_append_right _ (List.mem_append_right _ (List.mem_append_left _ hb)))))))))) : ∀ b ∈ L2901, b ∈ (D3414 :: (a2574 :: (a2594 :: (a2899 :: (D3246 :: (D2984 :: (L2576 ++ (L2596 ++ (L2901 ++ (L3393 ++ (L3105 ++ [])))))))))))) (all_app ((fun b hb => (.tail _ (.tail _ (.tail _ (.tail _ (.tail _ (.tail _ (List.mem_append_right _ (List.mem_append_right _ (List.mem_append_right _ (List.mem_append_left _ hb))))))))))) : ∀ b ∈ L3393, b ∈ (D3414 :: (a2574 :: (a2594 :: (a2899 :: (D3246 :: (D2984 :: (L2576 ++ (L2596 ++ (L2901 ++ (L3393 ++ (L3105 ++ [])))))))))))) (all_app ((fun b hb => (.tail _ (.tail _ (.tail _ (.tail _ (.tail _ (.tail _ (List.mem_append_right _ (List.mem_append_right _ (List.mem_append_right _ (List.mem_append_right _ (List.mem_append_left _ hb)))))))))))) : ∀ b ∈ L3105, b ∈ (D3414 :: (a2574 :: (a2594 :: (a2899 :: (D3246 :: (D2984 :: (L2576 ++ (L2596 ++ (L2901 ++ (L3393 ++ (L3105 ++ [])))))))))))) all_nil))))))))))), h3545, h3546, h3547, h3548, h3549, w3550, w3551, w3552, w3553, w3554, hw⟩
                                  · have hw := cW_neg c3544 hw
                                    have hw := cW_ok hw
                                    have hw := hK3532 _ hw
                                    have h3555 := (e3524 _ _ h3511)
                                    have h3556 := (e3524 _ _ h3512)
                                    have h3557 := (e3524 _ _ h3513)
                                    have h3558 := (e3524 _ _ h3514)
                                    have h3559 := (e3524 _ _ h3515)
                                    have w3560 : OwAll G3502 H3523 L2576 (vs2575) ((v2571 : (List (List Int))).map (oL oI)) := (OwAll.mono (Same.refl _) (keeps_same e3524) w3516)
                                    have w3561 : OwAll G3502 H3523 L2596 (vs2595) ((v2591 : (List (List Int))).map (oL oI)) := (OwAll.mono (Same.refl _) (keeps_same e3524) w3517)
                                    have w3562 : OwAll G3502 H3523 L2901 (vs2900) ((v2896 : (List (List Int))).map (oL oI)) := (OwAll.mono (Same.refl _) (keeps_same e3524) w3518)
                                    have w3563 : OwAll G3502 H3523 L3393 ((vs3353).set ((ixN (vs3353).length ((((v2557 + x2553) / 45) % (4 + (4 * ((v2557 + x2553) % 2)))))).getD 0) (V.ref p3380)) ((setL (acc3352) ((((v2557 + x2553) / 45) % (4 + (4 * ((v2557 + x2553) % 2))))) (repL ([0]) ((12 - (4 + (4 * ((v2557 + x2553) % 2)))))) : (List (List Int))).map (oL oI)) := (OwAll.mono (Same.refl _) (keeps_same e3524) w3519)
                                    have w3564 : OwAll G3502 H3523 L3105 (vs3104) ((bad_3103 : (List (List Int))).map (oL oI)) := (OwAll.mono (Same.refl _) (keeps_same e3524) w3520)
                                    exact ⟨((((v2557 + x2553) / 45) % 12)), _, rfl, (Same.refl _), (S3525.sub (all_cons (.tail _ (.head _)) (all_cons (.tail _ (.tail _ (.head _))) (all_cons (.tail _ (.tail _ (.tail _ (.head _)))) (all_cons (.tail _ (.tail _ (.tail _ (.tail _ (.head _))))) (all_cons (.tail _ (.tail _ (.tail _ (.tail _ (.tail _ (.head _)))))) (all_app ((fun b hb => (.tail _ (.tail _ (.tail _ (.tail _ (.tail _ (.tail _ (List.mem_append_left _ hb)))))))) : ∀ b ∈ L2576, b ∈ (D3414 :: (a2574 :: (a2594 :: (a2899 :: (D3246 :: (D2984 :: (L2576 ++ (L2596 ++ (L2901 ++ (L3393 ++ (L3105 ++ [])))))))))))) (all_app ((fun b hb => (.tail _ (.tail _ (.tail _ (.tail _ (.tail _ (.tail _ (List.mem_append_right _ (List.mem_append_left _ hb))))))))) : ∀ b ∈ L2596, b ∈ (D3414 :: (a2574 :: (a2594 :: (a2899 :: (D3246 :: (D2984 :: (L2576 ++ (L2596 ++ (L2901 ++ (L3393 ++ (L3105 ++ [])))))))))))) (all_app ((fun b hb => (.tail _ (.tail _ (.tail _ (.tail _ (.tail _ (.tail _ (List.mem_append_right _ (List.mem_append_right _ (List.mem_append_left _ hb)))))))))) : ∀ b ∈ L2901, b ∈ (D3414 :: (a2574 :: (a2594 :: (a2899 :: (D3246 :: (D2984 :: (L2576 ++ (L2596 ++ (L2901 ++ (L3393 ++ (L3105 ++ [])))))))))))) (all_app ((fun b hb => (.tail _ (.tail _ (.tail _ (.tail _ (.tail _ (.tail _ (List.mem_append_right _ (List.mem_append_right _ (List.mem_append_right _ (List.mem_append_left _ hb))))))))))) : ∀ b ∈ L3393, b ∈ (D3414 :: (a2574 :: (a2594 :: (a2899 :: (D3246 :: (D2984 :: (L2576 ++ (L2596 ++ (L2901 ++ (L3393 ++ (L3105 ++ [])))))))))))) (all_app ((fun b hb => (.tail _ (.tail _ (.tail _ (.tail _ (.tail _ (.tail _ (List.mem_append_right _ (List.mem_append_right _ (List.mem_append_right _ (List.mem_append_right _ (List.mem_append_left _ hb)))))))))))) : ∀ b ∈ L3105, b ∈ (D3414 :: (a2574 :: (a2594 :: (a2899 :: (D3246 :: (D2984 :: (L2576 ++ (L2596 ++ (L2901 ++ (L3393 ++ (L3105 ++ [])))))))))))) all_nil))))))))))), h3555, h3556, h3557, h3558, h3559, w3560, w3561, w3562, w3563, w3564, hw⟩
                              · intro σ H3565 hw
                                obtain ⟨wrong_3530, G3577, rfl, eG3578, S3566, h3567, h3568, h3569, h3570, h3571, w3572, w3573, w3574, w3575, w3576, hw⟩ := hw
                                unfold F_law_k10 at hw
                                refine ⟨_, rfl, rfl, rfl, G3577, _, _, rfl, S3566.sG, (Rp.hide_nil (rp_mk_list h3571 (OwAll.rpA w3576 (encO_L encO_I) S3566.sG))), cW_call hw (fun v3579 hw H3580 e3581 => ?_) (fun e he => (hE e he).elim)⟩
                                have S3582 := S3566.same e3581
                                refine ⟨_, rfl, ?_⟩
                                refine iteBN (fun c3583 => ?_) (fun c3583 => ?_)
                                · have hw := cW_negB c3583 hw
                                  refine iteT ?_
                                  have hw := cW_ok hw
                                  have hw := hK2555 (.rt _) hw
                                  have hw := hK2534 (.rt _) hw
                                  have hw := cW_ok hw
                                  exact eq_bl (k _) (hK0 _ hw).symm
                                · have hw := cW_pos c3583 hw
                                  obtain ⟨g3584, hw⟩ := cW_grd hw
                                  obtain ⟨K3587, hK3588, hw⟩ := cW_push hw
                                  refine ⟨_, rfl, _, rfl, g3584.1, g3584.2, fun D3589 n3590 => lc_range (lo := 0) (n := Int.toNat (wrong_3530)) (fun i H' => ∃ (G' : Hp) (acc3592 : (List (List Int))) (vs3593 : List V), Same G3577 G' ∧ Sep [] H H G' H' (D3589 :: (a2574 :: (a2594 :: (a2899 :: (D3246 :: (D2984 :: (L2576 ++ (L2596 ++ (L2901 ++ (L3393 ++ (L3105 ++ []))))))))))) ∧ H' a2574 = some (.lst (vs2575)) ∧ H' a2594 = some (.lst (vs2595)) ∧ H' a2899 = some (.lst (vs2900)) ∧ H' D3246 = some (.lst ((vs3353).set ((ixN (vs3353).length ((((v2557 + x2553) / 45) % (4 + (4 * ((v2557 + x2553) % 2)))))).getD 0) (V.ref p3380))) ∧ H' D2984 = some (.lst (vs3104)) ∧ H' D3589 = some (.lst vs3593) ∧ OwAll G' H' L2576 (vs2575) ((v2571 : (List (List Int))).map (oL oI)) ∧ OwAll G' H' L2596 (vs2595) ((v2591 : (List (List Int))).map (oL oI)) ∧ OwAll G' H' L2901 (vs2900) ((v2896 : (List (List Int))).map (oL oI)) ∧ OwAll G' H' L3393 ((vs3353).set ((ixN (vs3353).length ((((v2557 + x2553) / 45) % (4 + (4 * ((v2557 + x2553) % 2)))))).getD 0) (V.ref p3380)) ((setL (acc3352) ((((v2557 + x2553) / 45) % (4 + (4 * ((v2557 + x2553) % 2))))) (repL ([0]) ((12 - (4 + (4 * ((v2557 + x2553) % 2)))))) : (List (List Int))).map (oL oI)) ∧ OwAll G' H' L3105 (vs3104) ((bad_3103 : (List (List Int))).map (oL oI)) ∧ RpAll G' vs3593 ((acc3592 : (List (List Int))).map (encL PyData.int)) ∧ Same H3580 H' ∧ cW (mapA (List.drop i (rng (0) (Int.toNat (wrong_3530)))) acc3592 (fun x => noEr (F_law_c11 (wrong_3530) x))) K3587 EE) ?_ ?_ ?_⟩
                                  · generalize g3594 : upd H3580 D3589 _ = H3595
                                    obtain ⟨e3596, h3597⟩ := gen_new n3590 g3594
                                    have fr3598 := S3582.free n3590
                                    have S3599 := S3582.new n3590 e3596 h3597 fr3598
                                    have h3600 := (e3596 _ _ (e3581 _ _ h3567))
                                    have h3601 := (e3596 _ _ (e3581 _ _ h3568))
                                    have h3602 := (e3596 _ _ (e3581 _ _ h3569))
                                    have h3603 := (e3596 _ _ (e3581 _ _ h3570))
                                    have h3604 := (e3596 _ _ (e3581 _ _ h3571))
                                    have w3605 : OwAll G3577 H3595 L2576 (vs2575) ((v2571 : (List (List Int))).map (oL oI)) := (OwAll.mono (Same.refl _) (keeps_same e3596) (OwAll.mono (Same.refl _) (keeps_same e3581) w3572))
                                    have w3606 : OwAll G3577 H3595 L2596 (vs2595) ((v2591 : (List (List Int))).map (oL oI)) := (OwAll.mono (Same.refl _) (keeps_same e3596) (OwAll.mono (Same.refl _) (keeps_same e3581) w3573))
                                    have w3607 : OwAll G3577 H3595 L2901 (vs2900) ((v2896 : (List (List Int))).map (oL oI)) := (OwAll.mono (Same.refl _) (keeps_same e3596) (OwAll.mono (Same.refl _) (keeps_same e3581) w3574))
                                    have w3608 : OwAll G3577 H3595 L3393 ((vs3353).set ((ixN (vs3353).length ((((v2557 + x2553) / 45) % (4 + (4 * ((v2557 + x2553) % 2)))))).getD 0) (V.ref p3380)) ((setL (acc3352) ((((v2557 + x2553) / 45) % (4 + (4 * ((v2557 + x2553) % 2))))) (repL ([0]) ((12 - (4 + (4 * ((v2557 + x2553) % 2)))))) : (List (List Int))).map (oL oI)) := (OwAll.mono (Same.refl _) (keeps_same e3596) (OwAll.mono (Same.refl _) (keeps_same e3581) w3575))
                                    have w3609 : OwAll G3577 H3595 L3105 (vs3104) ((bad_3103 : (List (List Int))).map (oL oI)) := (OwAll.mono (Same.refl _) (keeps_same e3596) (OwAll.mono (Same.refl _) (keeps_same e3581) w3576))
                                    exact ⟨_, [], [], Same.refl _, S3599, h3600, h3601, h3602, h3603, h3604, h3597, w3605, w3606, w3607, w3608, w3609, RpAll.nil, e3596, hw⟩
                                  · intro i H3610 hi hw
                                    obtain ⟨G3613, acc3615, vs3616, eG3614, S3611, h3622, h3623, h3624, h3625, h3626, h3612, w3627, w3628, w3629, w3630, w3631, d3617, eo3621, hw⟩ := hw
                                    obtain ⟨z3632, hw⟩ := cW_mapA (rng_get hi) hw
                                    generalize (0 + (i : Int)) = x3633 at hw ⊢
                                    have hw := cW_noEr hw
                                    have hw : cW (F_law_c11 (wrong_3530) (x3633)) _ (fun _ => False) := hw
                                    unfold F_law_c11 at hw
                                    refine ⟨rfl, ?_⟩
                                    refine tyes_go ?_
                                    refine ⟨(by show 1 ≤ sizeLine; decide), fun p3635 n3636 => ?_⟩
                                    generalize g3637 : upd H3610 p3635 _ = H3638
                                    obtain ⟨e3639, h3640⟩ := gen_new n3636 g3637
                                    have h3641 : H3638 p3635 = some (.lst (([0] : (List Int)).map V.int)) := h3640
                                    have fr3642 := S3611.free n3636
                                    have S3643 := S3611.new n3636 e3639 h3641 fr3642
                                    obtain ⟨g3644, hw⟩ := cW_grd hw
                                    refine ⟨_, rfl, _, _, _, rfl, rfl, h3641, g3644.1, g3644.2.1, (rep_lenM g3644.2.2), fun p3645 n3646 => ?_⟩
                                    generalize g3647 : upd H3638 p3645 _ = H3648
                                    obtain ⟨e3649, h3650⟩ := gen_new n3646 g3647
                                    have h3651 : H3648 p3645 = some (.lst ((repL ([0]) (wrong_3530) : (List Int)).map V.int)) := rep_map h3650
                                    have fr3652 := S3643.free n3646
                                    have S3653 := S3643.new n3646 e3649 h3651 fr3652
                                    obtain ⟨G3654, eG3655, hg3656, S3657⟩ := Sep.freeze (O' := (p3635 :: (D3589 :: (a2574 :: (a2594 :: (a2899 :: (D3246 :: (D2984 :: (L2576 ++ (L2596 ++ (L2901 ++ (L3393 ++ (L3105 ++ []))))))))))))) S3653 (.head _) h3651 fr3652 ((all_cons ⟨(.tail _ (.head _)), (ne_of_none h3641 n3646)⟩ (all_cons ⟨(.tail _ (.tail _ (.head _))), (ne_of_none (e3639 _ _ h3612) n3646)⟩ (all_cons ⟨(.tail _ (.tail _ (.tail _ (.head _)))), (ne_of_none (e3639 _ _ h3622) n3646)⟩ (all_cons ⟨(.tail _ (.tail _ (.tail _ (.tail _ (.head _))))), (ne_of_none (e3639 _ _ h3623) n3646)⟩ (all_cons ⟨(.tail _ (.tail _ (.tail _ (.tail _ (.tail _ (.head _)))))), (ne_of_none (e3639 _ _ h3624) n3646)⟩ (all_cons ⟨(.tail _ (.tail _ (.tail _ (.tail _ (.tail _ (.tail _ (.head _))))))), (ne_of_none (e3639 _ _ h3625) n3646)⟩ (all_cons ⟨(.tail _ (.tail _ (.tail _ (.tail _ (.tail _ (.tail _ (.tail _ (.head _)))))))), (ne_of_none (e3639 _ _ h3626) n3646)⟩ (all_app (fun b hb => ⟨((fun b hb => (.tail _ (.tail _ (.tail _ (.tail _ (.tail _ (.tail _ (.tail _ (.tail _ (List.mem_append_left _ hb)))))))))) : ∀ b ∈ L2576, b ∈ (p3645 :: (p3635 :: (D3589 :: (a2574 :: (a2594 :: (a2899 :: (D3246 :: (D2984 :: (L2576 ++ (L2596 ++ (L2901 ++ (L3393 ++ (L3105 ++ [])))))))))))))) b hb, (there_ne (fun b_ hb_ => (S3643.ow b_ (((fun b hb => (.tail _ (.tail _ (.tail _ (.tail _ (.tail _ (.tail _ (.tail _ (List.mem_append_left _ hb))))))))) : ∀ b ∈ L2576, b ∈ (p3635 :: (D3589 :: (a2574 :: (a2594 :: (a2899 :: (D3246 :: (D2984 :: (L2576 ++ (L2596 ++ (L2901 ++ (L3393 ++ (L3105 ++ []))))))))))))) b_ hb_)).2.1) n3646) b hb⟩) (all_app (fun b hb => ⟨((fun b hb => (.tail _ (.tail _ (.tail _ (.tail _ (.tail _ (.tail _ (.tail _ (.tail _ (List.mem_append_right _ (List.mem_append_left _ hb))))))))))) : ∀ b ∈ L2596, b ∈ (p3645 :: (p3635 :: (D3589 :: (a2574 :: (a2594 :: (a2899 :: (D3246 :: (D2984 :: (L2576 ++ (L2596 ++ (L2901 ++ (L3393 ++ (L3105 ++ [])))))))))))))) b hb, (there_ne (fun b_ hb_ => (S3643.ow b_ (((fun b hb => (.tail _ (.tail _ (.tail _ (.tail _ (.tail _ (.tail _ (.tail _ (List.mem_append_right _ (List.mem_append_left _ hb)))))))))) : ∀ b ∈ L2596, b ∈ (p3635 :: (D3589 :: (a2574 :: (a2594 :: (a2899 :: (D3246 :: (D2984 :: (L2576 ++ (L2596 ++ (L2901 ++ (L3393 ++ (L3105 ++ []))))))))))))) b_ hb_)).2.1) n3646) b hb⟩) (all_app (fun b hb => ⟨((fun b hb => (.tail _ (.tail _ (.tail _ (.tail _ (.tail _ (.tail _ (.tail _ (.tail _ (List.mem_append_right _ (List.mem_append_right _ (List.mem_append_left _ hb)))))))))))) : ∀ b ∈ L2901, b ∈ (p3645 :: (p3635 :: (D3589 :: (a2574 :: (a2594 :: (a2899 :: (D3246 :: (D2984 :: (L2576 ++ (L2596 ++ (L2901 ++ (L3393 ++ (L3105 ++ [])))))))))))))) b hb, (there_ne (fun b_ hb_ => (S3643.ow b_ (((fun b hb => (.tail _ (.tail _ (.tail _ (.tail _ (.tail _ (.tail _ (.tail _ (List.mem_append_right _ (List.mem_append_right _ (List.mem_append_left _ hb))))))))))) : ∀ b ∈ L2901, b ∈ (p3635 :: (D3589 :: (a2574 :: (a2594 :: (a2899 :: (D3246 :: (D2984 :: (L2576 ++ (L2596 ++ (L2901 ++ (L3393 ++ (L3105 ++ []))))))))))))) b_ hb_)).2.1) n3646) b hb⟩) (all_app (fun b hb => ⟨((fun b hb => (.tail _ (.tail _ (.tail _ (.tail _ (.tail _ (.tail _ (.tail _ (.tail _ (List.mem_append_right _ (List.mem_append_right _ (List.mem_append_right _ (List.mem_append_left _ hb))))))))))))) : ∀ b ∈ L3393, b ∈ (p3645 :: (p3635 :: (D3589 :: (a2574 :: (a2594 :: (a2899 :: (D3246 :: (D2984 :: (L2576 ++ (L2596 ++ (L2901 ++ (L3393 ++ (L3105 ++ [])))))))))))))) b hb, (there_ne (fun b_ hb_ => (S3643.ow b_ (((fun b hb => (.tail _ (.tail _ (.tail _ (.tail _ (.tail _ (.tail _ (.tail _ (List.mem_append_right _ (List.mem_append_right _ (List.mem_append_right _ (List.mem_append_left _ hb)))))))))))) : ∀ b ∈ L3393, b ∈ (p3635 :: (D3589 :: (a2574 :: (a2594 :: (a2899 :: (D3246 :: (D2984 :: (L2576 ++ (L2596 ++ (L2901 ++ (L3393 ++ (L3105 ++ []))))))))))))) b_ hb_)).2.1) n3646) b hb⟩) (all_app (fun b hb => ⟨((fun b hb => (.tail _ (.tail _ (.tail _ (.tail _ (.tail _ (.tail _ (.tail _ (.tail _ (List.mem_append_right _ (List.mem_append_right _ (List.mem_append_right _ (List.mem_append_right _ (List.mem_append_left _ hb)))))))))))))) : ∀ b ∈ L3105, b ∈ (p3645 :: (p3635 :: (D3589 :: (a2574 :: (a2594 :: (a2899 :: (D3246 :: (D2984 :: (L2576 ++ (L2596 ++ (L2901 ++ (L3393 ++ (L3105 ++ [])))))))))))))) b hb, (there_ne (fun b_ hb_ => (S3643.ow b_ (((fun b hb => (.tail _ (.tail _ (.tail _ (.tail _ (.tail _ (.tail _ (.tail _ (List.mem_append_right _ (List.mem_append_right _ (List.mem_append_right _ (List.mem_append_right _ (List.mem_append_left _ hb))))))))))))) : ∀ b ∈ L3105, b ∈ (p3635 :: (D3589 :: (a2574 :: (a2594 :: (a2899 :: (D3246 :: (D2984 :: (L2576 ++ (L2596 ++ (L2901 ++ (L3393 ++ (L3105 ++ []))))))))))))) b_ hb_)).2.1) n3646) b hb⟩) all_nil)))))))))))))
                                    have h3658 := (e3649 _ _ (e3639 _ _ h3612))
                                    refine ⟨_, h3658, (app_len (RpAll.mono eG3655 d3617) z3632), ?_⟩
                                    generalize g3659 : upd H3648 D3589 _ = H3660
                                    obtain ⟨x3661, h3662⟩ := gen_mut g3659
                                    have S3663 := S3657.mut1 x3661 (.tail _ (.head _)) h3662
                                    have hw := cW_ok hw
                                    have h3664 := (x3661 _ _ (e3649 _ _ (e3639 _ _ h3622)) (ne_of_none (e3581 _ _ h3567) n3590))
                                    have h3665 := (x3661 _ _ (e3649 _ _ (e3639 _ _ h3623)) (ne_of_none (e3581 _ _ h3568) n3590))
                                    have h3666 := (x3661 _ _ (e3649 _ _ (e3639 _ _ h3624)) (ne_of_none (e3581 _ _ h3569) n3590))
                                    have h3667 := (x3661 _ _ (e3649 _ _ (e3639 _ _ h3625)) (ne_of_none (e3581 _ _ h3570) n3590))
                                    have h3668 := (x3661 _ _ (e3649 _ _ (e3639 _ _ h3626)) (ne_of_none (e3581 _ _ h3571) n3590))
                                    have w3669 : OwAll G3654 H3660 L2576 (vs2575) ((v2571 : (List (List Int))).map (oL oI)) := (OwAll.mono eG3655 keeps_refl (OwAll.mono (Same.refl _) (keeps_mut x3661 ((there_ne (fun b_ hb_ => (S3582.ow b_ (((fun b hb => (.tail _ (.tail _ (.tail _ (.tail _ (.tail _ (List.mem_append_left _ hb))))))) : ∀ b ∈ L2576, b ∈ (a2574 :: (a2594 :: (a2899 :: (D3246 :: (D2984 :: (L2576 ++ (L2596 ++ (L2901 ++ (L3393 ++ (L3105 ++ []))))))))))) b_ hb_)).2.1) n3590) : ∀ b ∈ L2576, b ≠ D3589)) (OwAll.mono (Same.refl _) (keeps_same e3649) (OwAll.mono (Same.refl _) (keeps_same e3639) w3627))))
                                    have w3670 : OwAll G3654 H3660 L2596 (vs2595) ((v2591 : (List (List Int))).map (oL oI)) := (OwAll.mono eG3655 keeps_refl (OwAll.mono (Same.refl _) (keeps_mut x3661 ((there_ne (fun b_ hb_ => (S3582.ow b_ (((fun b hb => (.tail _ (.tail _ (.tail _ (.tail _ (.tail _ (List.mem_append_right _ (List.mem_append_left _ hb)))))))) : ∀ b ∈ L2596, b ∈ (a2574 :: (a2594 :: (a2899 :: (D3246 :: (D2984 :: (L2576 ++ (L2596 ++ (L2901 ++ (L3393 ++ (L3105 ++ []))))))))))) b_ hb_)).2.1) n3590) : ∀ b ∈ L2596, b ≠ D3589)) (OwAll.mono (Same.refl _) (keeps_same e3649) (OwAll.mono (Same.refl _) (keeps_same e3639) w3628))))
                                    have w3671 : OwAll G3654 H3660 L2901 (vs2900) ((v2896 : (List (List Int))).map (oL oI)) := (OwAll.mono eG3655 keeps_refl (OwAll.mono (Same.refl _) (keeps_mut x3661 ((there_ne (fun b_ hb_ => (S3582.ow b_ (((fun b hb => (.tail _ (.tail _ (.tail _ (.tail _ (.tail _ (List.mem_append_right _ (List.mem_append_right _ (List.mem_append_left _ hb))))))))) : ∀ b ∈ L2901, b ∈ (a2574 :: (a2594 :: (a2899 :: (D3246 :: (D2984 :: (L2576 ++ (L2596 ++ (L2901 ++ (L3393 ++ (L3105 ++ []))))))))))) b_ hb_)).2.1) n3590) : ∀ b ∈ L2901, b ≠ D3589)) (OwAll.mono (Same.refl _) (keeps_same e3649) (OwAll.mono (Same.refl _) (keeps_same e3639) w3629))))
                                    have w3672 : OwAll G3654 H3660 L3393 ((vs3353).set ((ixN (vs3353).length ((((v2557 + x2553) / 45) % (4 + (4 * ((v2557 + x2553) % 2)))))).getD 0) (V.ref p3380)) ((setL (acc3352) ((((v2557 + x2553) / 45) % (4 + (4 * ((v2557 + x2553) % 2))))) (repL ([0]) ((12 - (4 + (4 * ((v2557 + x2553) % 2)))))) : (List (List Int))).map (oL oI)) := (OwAll.mono eG3655 keeps_refl (OwAll.mono (Same.refl _) (keeps_mut x3661 ((there_ne (fun b_ hb_ => (S3582.ow b_ (((fun b hb => (.tail _ (.tail _ (.tail _ (.tail _ (.tail _ (List.mem_append_right _ (List.mem_append_right _ (List.mem_append_right _ (List.mem_append_left _ hb)))))))))) : ∀ b ∈ L3393, b ∈ (a2574 :: (a2594 :: (a2899 :: (D3246 :: (D2984 :: (L2576 ++ (L2596 ++ (L2901 ++ (L3393 ++ (L3105 ++ []))))))))))) b_ hb_)).2.1) n3590) : ∀ b ∈ L3393, b ≠ D3589)) (OwAll.mono (Same.refl _) (keeps_same e3649) (OwAll.mono (Same.refl _) (keeps_same e3639) w3630))))
                                    have w3673 : OwAll G3654 H3660 L3105 (vs3104) ((bad_3103 : (List (List Int))).map (oL oI)) := (OwAll.mono eG3655 keeps_refl (OwAll.mono (Same.refl _) (keeps_mut x3661 ((there_ne (fun b_ hb_ => (S3582.ow b_ (((fun b hb => (.tail _ (.tail _ (.tail _ (.tail _ (.tail _ (List.mem_append_right _ (List.mem_append_right _ (List.mem_append_right _ (List.mem_append_right _ (List.mem_append_left _ hb))))))))))) : ∀ b ∈ L3105, b ∈ (a2574 :: (a2594 :: (a2899 :: (D3246 :: (D2984 :: (L2576 ++ (L2596 ++ (L2901 ++ (L3393 ++ (L3105 ++ []))))))))))) b_ hb_)).2.1) n3590) : ∀ b ∈ L3105, b ≠ D3589)) (OwAll.mono (Same.refl _) (keeps_same e3649) (OwAll.mono (Same.refl _) (keeps_same e3639) w3631))))
                                    exact ⟨_, (acc3615 ++ [repL ([0]) (wrong_3530)]), _, (Same.trans eG3614 eG3655), (S3663.sub (all_cons (.tail _ (.head _)) (all_cons (.tail _ (.tail _ (.head _))) (all_cons (.tail _ (.tail _ (.tail _ (.head _)))) (all_cons (.tail _ (.tail _ (.tail _ (.tail _ (.head _))))) (all_cons (.tail _ (.tail _ (.tail _ (.tail _ (.tail _ (.head _)))))) (all_cons (.tail _ (.tail _ (.tail _ (.tail _ (.tail _ (.tail _ (.head _))))))) (all_app ((fun b hb => (.tail _ (.tail _ (.tail _ (.tail _ (.tail _ (.tail _ (.tail _ (List.mem_append_left _ hb))))))))) : ∀ b ∈ L2576, b ∈ (p3635 :: (D3589 :: (a2574 :: (a2594 :: (a2899 :: (D3246 :: (D2984 :: (L2576 ++ (L2596 ++ (L2901 ++ (L3393 ++ (L3105 ++ []))))))))))))) (all_app ((fun b hb => (.tail _ (.tail _ (.tail _ (.tail _ (.tail _ (.tail _ (.tail _ (List.mem_append_right _ (List.mem_append_left _ hb)))))))))) : ∀ b ∈ L2596, b ∈ (p3635 :: (D3589 :: (a2574 :: (a2594 :: (a2899 :: (D3246 :: (D2984 :: (L2576 ++ (L2596 ++ (L2901 ++ (L3393 ++ (L3105 ++ []))))))))))))) (all_app ((fun b hb => (.tail _ (.tail _ (.tail _ (.tail _ (.tail _ (.tail _ (.tail _ (List.mem_append_right _ (List.mem_append_right _ (List.mem_append_left _ hb))))))))))) : ∀ b ∈ L2901, b ∈ (p3635 :: (D3589 :: (a2574 :: (a2594 :: (a2899 :: (D3246 :: (D2984 :: (L2576 ++ (L2596 ++ (L2901 ++ (L3393 ++ (L3105 ++ []))))))))))))) (all_app ((fun b hb => (.tail _ (.tail _ (.tail _ (.tail _ (.tail _ (.tail _ (.tail _ (List.mem_append_right _ (List.mem_append_right _ (List.mem_append_right _ (List.mem_append_left _ hb)))))))))))) : ∀ b ∈ L3393, b ∈ (p3635 :: (D3589 :: (a2574 :: (a2594 :: (a2899 :: (D3246 :: (D2984 :: (L2576 ++ (L2596 ++ (L2901 ++ (L3393 ++ (L3105 ++ []))))))))))))) (all_app ((fun b hb => (.tail _ (.tail _ (.tail _ (.tail _ (.tail _ (.tail _ (.tail _ (List.mem_append_right _ (List.mem_append_right _ (List.mem_append_right _ (List.mem_append_right _ (List.mem_append_left _ hb))))))))))))) : ∀ b ∈ L3105, b ∈ (p3635 :: (D3589 :: (a2574 :: (a2594 :: (a2899 :: (D3246 :: (D2984 :: (L2576 ++ (L2596 ++ (L2901 ++ (L3393 ++ (L3105 ++ []))))))))))))) all_nil)))))))))))), h3664, h3665, h3666, h3667, h3668, h3662, w3669, w3670, w3671, w3672, w3673, (app_map (RpAll.mono eG3655 d3617) (RpAll.one (rp_mk_ints hg3656))), (same_mut (Same.trans (Same.trans eo3621 e3639) e3649) x3661 n3590), hw⟩
                                  intro H3674 hw
                                  obtain ⟨G3677, acc3679, vs3680, eG3678, S3675, h3686, h3687, h3688, h3689, h3690, h3676, w3691, w3692, w3693, w3694, w3695, d3681, eo3685, hw⟩ := hw
                                  have hw := hK3588 _ (cW_mapA0 (rng_len _ _).symm hw)
                                  have fr3696 := S3582.free n3590
                                  refine ⟨rfl, rfl, G3677, _, _, rfl, S3675.sG, (Rp.hide_nil (rp_mk_list h3676 (RpAll.mono S3675.sG d3681))), cW_call hw (fun v3697 hw H3698 e3699 => ?_) (fun e he => (hE e he).elim)⟩
                                  have S3700 := S3675.same e3699
                                  refine ⟨_, rfl, ?_⟩
                                  refine iteBN (fun c3701 => ?_) (fun c3701 => ?_)
                                  · have hw := cW_negB c3701 hw
                                    have hw := cW_ok hw
                                    have hw := hK2555 (.rt _) hw
                                    have hw := hK2534 (.rt _) hw
                                    have hw := cW_ok hw
                                    exact eq_bl (k _) (hK0 _ hw).symm
                                  · have hw := cW_pos c3701 hw
                                    have hw := cW_ok hw
                                    have hw := hK2555 _ hw
                                    exact ⟨_, _, _, _, _, _, _, _, _, _, _, _, _, _, _, rfl, (Same.trans (Same.trans (Same.trans (Same.trans (Same.trans (Same.trans (Same.trans (Same.trans (Same.trans (Same.trans (Same.trans (Same.trans (Same.trans (Same.trans eG2552 eG2581) eG2601) eG2629) eG2801) eG2895) eG2906) eG2927) eG2969) eG3081) eG3242) eG3351) eG3503) eG3578) eG3678), (S3700.sub all_nil), hw⟩
    · intro σ H3702 hw
      obtain ⟨u2535, u2536, u2537, u2538, u2539, u2540, u2541, u2542, u2543, u2544, u2545, u2546, u2547, u2548, G3704, rfl, eG3705, S3703, hw⟩ := hw
      have hw := cW_aftgo (hK2534 _ (cW_forR0 (rng_len _ _).symm hw))
      have hw : cW (F_law_r1  ) _ EE := hw
      unfold F_law_r1 at hw
      have hw := cW_ok hw
      exact eq_bl (k _) (hK0 _ hw).symm
end
def spL (K : PySem.W.Frag) : Sp := fun vs H Q _ => ∃ (a_script : Addr) (script : List Int), vs = [.ref a_script] ∧ SqL K H a_script (script.map V.int) ∧ script.length ≤ 63 ∧ ∀ H', Q (.bl true) H'
theorem all_mk {l : PySem.W.OpenLaw} {w : World} {K : PySem.W.Frag} {h : Heap} {mg : Str → Option Value} {fa : Addr} (X : K.In h) (G : h.Ns mainGlobals mg) (hfa : mg "law" = some (.ref fa))
    {f0 f1 f2 f3 f4 f5 f6 f7 f8 f9 f10 f11 f12 f13 f14 f15 f16 f17 f18 f19 f20 f21 XOutOfRange : Addr} {od0 an0 od1 an1 od2 an2 od3 an3 od4 an4 od5 an5 od6 an6 od7 an7 od8 an8 od9 an9 od10 an10 od11 an11 od12 an12 od13 an13 od14 an14 od15 an15 od16 an16 od17 an17 od18 an18 od19 an19 od20 an20 od21 an21 : Option Addr} {sl0 sl1 sl2 sl3 sl4 sl5 sl6 sl7 sl8 sl9 sl10 sl11 sl12 sl13 sl14 sl15 sl16 sl17 sl18 sl19 sl20 sl21 : Array (Option Value)} {oc0 kV0 dc0 pm0 cd0 ct0 oc1 kV1 dc1 pm1 cd1 ct1 oc2 kV2 dc2 pm2 cd2 ct2 oc3 kV3 dc3 pm3 cd3 ct3 oc4 kV4 dc4 pm4 cd4 ct4 oc5 kV5 dc5 pm5 cd5 ct5 oc6 kV6 dc6 pm6 cd6 ct6 oc7 kV7 dc7 pm7 cd7 ct7 oc8 kV8 dc8 pm8 cd8 ct8 oc9 kV9 dc9 pm9 cd9 ct9 oc10 kV10 dc10 pm10 cd10 ct10 oc11 kV11 dc11 pm11 cd11 ct11 oc12 kV12 dc12 pm12 cd12 ct12 oc13 kV13 dc13 pm13 cd13 ct13 oc14 kV14 dc14 pm14 cd14 ct14 oc15 kV15 dc15 pm15 cd15 ct15 oc16 kV16 dc16 pm16 cd16 ct16 oc17 kV17 dc17 pm17 cd17 ct17 oc18 kV18 dc18 pm18 cd18 ct18 oc19 kV19 dc19 pm19 cd19 ct19 oc20 kV20 dc20 pm20 cd20 ct20 oc21 kV21 dc21 pm21 cd21 ct21 : Value} {TG_SIZES : Addr} {td2 : Option Addr} {tn2 : Nat} {tsl2 : Array (Option Value)} {tk2_0 tk2_1 : Tok}
    (vOutOfRange : PySem.W.nsIn K mainGlobals "OutOfRange" = some (some (.ref XOutOfRange))) (a0 : PySem.W.nsIn K mainGlobals "_law_digits" = some (some (.ref f0))) (l0 : K.lookup f0 = some ⟨oc0, od0, .func (PySem.W.fnOf "_law_digits" "_law_digits" (defArgs s__law_digits) (defBody s__law_digits) (defScope s__law_digits) .none kV0 dc0 pm0 an0 cd0 ct0), sl0⟩) (c0 : PySem.W.codeIn K cd0 "_law_digits" = true) (k0 : PySem.W.keepIn K (.ref f0) = true) (a1 : PySem.W.nsIn K mainGlobals "_law_rows" = some (some (.ref f1))) (l1 : K.lookup f1 = some ⟨oc1, od1, .func (PySem.W.fnOf "_law_rows" "_law_rows" (defArgs s__law_rows) (defBody s__law_rows) (defScope s__law_rows) .none kV1 dc1 pm1 an1 cd1 ct1), sl1⟩) (c1 : PySem.W.codeIn K cd1 "_law_rows" = true) (k1 : PySem.W.keepIn K (.ref f1) = true) (a2 : PySem.W.nsIn K mainGlobals "check_size" = some (some (.ref f2))) (l2 : K.lookup f2 = some ⟨oc2, od2, .func (PySem.W.fnOf "check_size" "check_size" (defArgs s_check_size) (defBody s_check_size) (defScope s_check_size) .none kV2 dc2 pm2 an2 cd2 ct2), sl2⟩) (c2 : PySem.W.codeIn K cd2 "check_size" = true) (k2 : PySem.W.keepIn K (.ref f2) = true) (a3 : PySem.W.nsIn K mainGlobals "check_square" = some (some (.ref f3))) (l3 : K.lookup f3 = some ⟨oc3, od3, .func (PySem.W.fnOf "check_square" "check_square" (defArgs s_check_square) (defBody s_check_square) (defScope s_check_square) .none kV3 dc3 pm3 an3 cd3 ct3), sl3⟩) (c3 : PySem.W.codeIn K cd3 "check_square" = true) (k3 : PySem.W.keepIn K (.ref f3) = true) (a4 : PySem.W.nsIn K mainGlobals "transposed" = some (some (.ref f4))) (l4 : K.lookup f4 = some ⟨oc4, od4, .func (PySem.W.fnOf "transposed" "transposed" (defArgs s_transposed) (defBody s_transposed) (defScope s_transposed) .none kV4 dc4 pm4 an4 cd4 ct4), sl4⟩) (c4 : PySem.W.codeIn K cd4 "transposed" = true) (k4 : PySem.W.keepIn K (.ref f4) = true) (a5 : PySem.W.nsIn K mainGlobals "split_pair" = some (some (.ref f5))) (l5 : K.lookup f5 = some ⟨oc5, od5, .func (PySem.W.fnOf "split_pair" "split_pair" (defArgs s_split_pair) (defBody s_split_pair) (defScope s_split_pair) .none kV5 dc5 pm5 an5 cd5 ct5), sl5⟩) (c5 : PySem.W.codeIn K cd5 "split_pair" = true) (k5 : PySem.W.keepIn K (.ref f5) = true) (a6 : PySem.W.nsIn K mainGlobals "turn_pair" = some (some (.ref f6))) (l6 : K.lookup f6 = some ⟨oc6, od6, .func (PySem.W.fnOf "turn_pair" "turn_pair" (defArgs s_turn_pair) (defBody s_turn_pair) (defScope s_turn_pair) .none kV6 dc6 pm6 an6 cd6 ct6), sl6⟩) (c6 : PySem.W.codeIn K cd6 "turn_pair" = true) (k6 : PySem.W.keepIn K (.ref f6) = true) (a7 : PySem.W.nsIn K mainGlobals "_forward_four" = some (some (.ref f7))) (l7 : K.lookup f7 = some ⟨oc7, od7, .func (PySem.W.fnOf "_forward_four" "_forward_four" (defArgs s__forward_four) (defBody s__forward_four) (defScope s__forward_four) .none kV7 dc7 pm7 an7 cd7 ct7), sl7⟩) (c7 : PySem.W.codeIn K cd7 "_forward_four" = true) (k7 : PySem.W.keepIn K (.ref f7) = true) (a8 : PySem.W.nsIn K mainGlobals "_forward_eight" = some (some (.ref f8))) (l8 : K.lookup f8 = some ⟨oc8, od8, .func (PySem.W.fnOf "_forward_eight" "_forward_eight" (defArgs s__forward_eight) (defBody s__forward_eight) (defScope s__forward_eight) .none kV8 dc8 pm8 an8 cd8 ct8), sl8⟩) (c8 : PySem.W.codeIn K cd8 "_forward_eight" = true) (k8 : PySem.W.keepIn K (.ref f8) = true) (a9 : PySem.W.nsIn K mainGlobals "forward" = some (some (.ref f9))) (l9 : K.lookup f9 = some ⟨oc9, od9, .func (PySem.W.fnOf "forward" "forward" (defArgs s_forward) (defBody s_forward) (defScope s_forward) .none kV9 dc9 pm9 an9 cd9 ct9), sl9⟩) (c9 : PySem.W.codeIn K cd9 "forward" = true) (k9 : PySem.W.keepIn K (.ref f9) = true) (a10 : PySem.W.nsIn K mainGlobals "forward_square" = some (some (.ref f10))) (l10 : K.lookup f10 = some ⟨oc10, od10, .func (PySem.W.fnOf "forward_square" "forward_square" (defArgs s_forward_square) (defBody s_forward_square) (defScope s_forward_square) .none kV10 dc10 pm10 an10 cd10 ct10), sl10⟩) (c10 : PySem.W.codeIn K cd10 "forward_square" = true) (k10 : PySem.W.keepIn K (.ref f10) = true) (a11 : PySem.W.nsIn K mainGlobals "turn_back" = some (some (.ref f11))) (l11 : K.lookup f11 = some ⟨oc11, od11, .func (PySem.W.fnOf "turn_back" "turn_back" (defArgs s_turn_back) (defBody s_turn_back) (defScope s_turn_back) .none kV11 dc11 pm11 an11 cd11 ct11), sl11⟩) (c11 : PySem.W.codeIn K cd11 "turn_back" = true) (k11 : PySem.W.keepIn K (.ref f11) = true) (a12 : PySem.W.nsIn K mainGlobals "join_pair" = some (some (.ref f12))) (l12 : K.lookup f12 = some ⟨oc12, od12, .func (PySem.W.fnOf "join_pair" "join_pair" (defArgs s_join_pair) (defBody s_join_pair) (defScope s_join_pair) .none kV12 dc12 pm12 an12 cd12 ct12), sl12⟩) (c12 : PySem.W.codeIn K cd12 "join_pair" = true) (k12 : PySem.W.keepIn K (.ref f12) = true) (a13 : PySem.W.nsIn K mainGlobals "_inverse_four" = some (some (.ref f13))) (l13 : K.lookup f13 = some ⟨oc13, od13, .func (PySem.W.fnOf "_inverse_four" "_inverse_four" (defArgs s__inverse_four) (defBody s__inverse_four) (defScope s__inverse_four) .none kV13 dc13 pm13 an13 cd13 ct13), sl13⟩) (c13 : PySem.W.codeIn K cd13 "_inverse_four" = true) (k13 : PySem.W.keepIn K (.ref f13) = true) (a14 : PySem.W.nsIn K mainGlobals "_inverse_eight" = some (some (.ref f14))) (l14 : K.lookup f14 = some ⟨oc14, od14, .func (PySem.W.fnOf "_inverse_eight" "_inverse_eight" (defArgs s__inverse_eight) (defBody s__inverse_eight) (defScope s__inverse_eight) .none kV14 dc14 pm14 an14 cd14 ct14), sl14⟩) (c14 : PySem.W.codeIn K cd14 "_inverse_eight" = true) (k14 : PySem.W.keepIn K (.ref f14) = true) (a15 : PySem.W.nsIn K mainGlobals "inverse" = some (some (.ref f15))) (l15 : K.lookup f15 = some ⟨oc15, od15, .func (PySem.W.fnOf "inverse" "inverse" (defArgs s_inverse) (defBody s_inverse) (defScope s_inverse) .none kV15 dc15 pm15 an15 cd15 ct15), sl15⟩) (c15 : PySem.W.codeIn K cd15 "inverse" = true) (k15 : PySem.W.keepIn K (.ref f15) = true) (a16 : PySem.W.nsIn K mainGlobals "inverse_square" = some (some (.ref f16))) (l16 : K.lookup f16 = some ⟨oc16, od16, .func (PySem.W.fnOf "inverse_square" "inverse_square" (defArgs s_inverse_square) (defBody s_inverse_square) (defScope s_inverse_square) .none kV16 dc16 pm16 an16 cd16 ct16), sl16⟩) (c16 : PySem.W.codeIn K cd16 "inverse_square" = true) (k16 : PySem.W.keepIn K (.ref f16) = true) (a17 : PySem.W.nsIn K mainGlobals "_law_cell" = some (some (.ref f17))) (l17 : K.lookup f17 = some ⟨oc17, od17, .func (PySem.W.fnOf "_law_cell" "_law_cell" (defArgs s__law_cell) (defBody s__law_cell) (defScope s__law_cell) .none kV17 dc17 pm17 an17 cd17 ct17), sl17⟩) (c17 : PySem.W.codeIn K cd17 "_law_cell" = true) (k17 : PySem.W.keepIn K (.ref f17) = true) (a18 : PySem.W.nsIn K mainGlobals "_law_is_square" = some (some (.ref f18))) (l18 : K.lookup f18 = some ⟨oc18, od18, .func (PySem.W.fnOf "_law_is_square" "_law_is_square" (defArgs s__law_is_square) (defBody s__law_is_square) (defScope s__law_is_square) .none kV18 dc18 pm18 an18 cd18 ct18), sl18⟩) (c18 : PySem.W.codeIn K cd18 "_law_is_square" = true) (k18 : PySem.W.keepIn K (.ref f18) = true) (a19 : PySem.W.nsIn K mainGlobals "_law_passes" = some (some (.ref f19))) (l19 : K.lookup f19 = some ⟨oc19, od19, .func (PySem.W.fnOf "_law_passes" "_law_passes" (defArgs s__law_passes) (defBody s__law_passes) (defScope s__law_passes) .none kV19 dc19 pm19 an19 cd19 ct19), sl19⟩) (c19 : PySem.W.codeIn K cd19 "_law_passes" = true) (k19 : PySem.W.keepIn K (.ref f19) = true) (a20 : PySem.W.nsIn K mainGlobals "_law_refused" = some (some (.ref f20))) (l20 : K.lookup f20 = some ⟨oc20, od20, .func (PySem.W.fnOf "_law_refused" "_law_refused" (defArgs s__law_refused) (defBody s__law_refused) (defScope s__law_refused) .none kV20 dc20 pm20 an20 cd20 ct20), sl20⟩) (c20 : PySem.W.codeIn K cd20 "_law_refused" = true) (k20 : PySem.W.keepIn K (.ref f20) = true) (a21 : PySem.W.nsIn K mainGlobals "law" = some (some (.ref f21))) (l21 : K.lookup f21 = some ⟨oc21, od21, .func (PySem.W.fnOf "law" "law" (defArgs s_law) (defBody s_law) (defScope s_law) .none kV21 dc21 pm21 an21 cd21 ct21), sl21⟩) (c21 : PySem.W.codeIn K cd21 "law" = true) (k21 : PySem.W.keepIn K (.ref f21) = true)
    (z0 : PySem.W.nsIn K mainGlobals "int" = some none) (z1 : PySem.W.nsIn K mainGlobals "range" = some none) (z2 : PySem.W.nsIn K mainGlobals "SIZES" = some (some (.ref TG_SIZES))) (y2 : K.lookup TG_SIZES = some ⟨.type "tuple", td2, .seq #[.int 4 tk2_0, .int 8 tk2_1] tn2, tsl2⟩) (z3 : PySem.W.nsIn K mainGlobals "len" = some none) (z4 : PySem.W.nsIn K mainGlobals "zip" = some none) (z5 : PySem.W.nsIn K mainGlobals "list" = some none) (z6 : PySem.W.nsIn K mainGlobals "abs" = some none) (z7 : PySem.W.nsIn K mainGlobals "isinstance" = some none) (z8 : PySem.W.nsIn K mainGlobals "bool" = some none) (z9 : PySem.W.nsIn K mainGlobals "repr" = some none) (z10 : PySem.W.nsIn K mainGlobals "max" = some none) (z11 : PySem.W.nsIn K mainGlobals "min" = some none) (exOutOfRange : PySem.W.excIn K XOutOfRange [.type "ValueError", .type "Exception", .type "BaseException", .type "object"] "ValueError.__new__" = true) (ekOutOfRange : PySem.W.keepIn K (.ref XOutOfRange) = true) (ebOutOfRange : PySem.W.subIn K (.ref XOutOfRange) (.type "BaseException") = some true) (etOutOfRange : PySem.W.typeIn K (.ref XOutOfRange) = some (.type "type")) (eiOutOfRangeOutOfRange : PySem.W.isClsIn K XOutOfRange = true) (esOutOfRangeOutOfRange : PySem.W.subIn K (.ref XOutOfRange) (.ref XOutOfRange) = some true) :
    ∃ fd : FuncData, (∀ (s : Shared) (v : Value), BindsTo s fd ⟨[v], []⟩ [("script", v)]) ∧ ∀ base : Heap, K.In base → base.Ns mainGlobals mg → FnG l.prog w K mg base CX0 7 fa fd ["script"] (spL K) := by
  have e := hfa.symm.trans (PySem.W.mg_of X G a21)
  cases e
  have T : Txt K mg ⟨fa, XOutOfRange, TG_SIZES, fa⟩ := ⟨PySem.W.mg_none_of X G z0, PySem.W.mg_none_of X G z1, ⟨_, PySem.W.mg_of X G z2, rfl⟩, fun H => .inr ⟨_, _, _, y2, rfl, rfl, (by show 2 ≤ sizeLine; decide), (.cons ⟨_, rfl⟩ (.cons ⟨_, rfl⟩ .nil))⟩, PySem.W.mg_none_of X G z3, PySem.W.mg_none_of X G z4, PySem.W.mg_none_of X G z5, PySem.W.mg_none_of X G z6, PySem.W.mg_none_of X G z7, PySem.W.mg_none_of X G z8, PySem.W.mg_none_of X G z9, PySem.W.mg_none_of X G z10, PySem.W.mg_none_of X G z11, PySem.W.mg_of X G vOutOfRange, exOutOfRange, ekOutOfRange, ebOutOfRange, etOutOfRange, exm_mk ebOutOfRange eiOutOfRangeOutOfRange etOutOfRange esOutOfRangeOutOfRange⟩
  have F0 : FunD K "_law_digits" "_law_digits" (defArgs s__law_digits) (defBody s__law_digits) (defScope s__law_digits) [] [] f0 _ := ⟨⟨_, _, _, _, _, _, _, _, _, _, rfl, l0, c0, .inl ⟨rfl, rfl⟩, .inl rfl⟩, k0⟩
  have D_0 : DefX K mg "_law_digits" s__law_digits ["cell", "base", "most"] pats__law_digits := ⟨_, _, _, _, F0, PySem.W.mg_of X G a0, (all_consQ (Bnd.all fun us ws vs zs l1 l2 r rz => by
      obtain ⟨u0, u1, u2, rfl⟩ := len3 (r.length.symm.trans l1)
      obtain rfl := len0 (rz.length.symm.trans l2)
      cases r with | cons r0 r =>
        cases r with | cons r1 r =>
          cases r with | cons r2 r =>
            cases r
            cases rz
            exact ⟨[u0, u1, u2], rfl, (.cons r0 (.cons r1 (.cons r2 .nil)))⟩) all_nilQ)⟩
  have F1 : FunD K "_law_rows" "_law_rows" (defArgs s__law_rows) (defBody s__law_rows) (defScope s__law_rows) [] [] f1 _ := ⟨⟨_, _, _, _, _, _, _, _, _, _, rfl, l1, c1, .inl ⟨rfl, rfl⟩, .inl rfl⟩, k1⟩
  have D_1 : DefX K mg "_law_rows" s__law_rows ["cell", "size", "most"] pats__law_rows := ⟨_, _, _, _, F1, PySem.W.mg_of X G a1, (all_consQ (Bnd.all fun us ws vs zs l1 l2 r rz => by
      obtain ⟨u0, u1, u2, rfl⟩ := len3 (r.length.symm.trans l1)
      obtain rfl := len0 (rz.length.symm.trans l2)
      cases r with | cons r0 r =>
        cases r with | cons r1 r =>
          cases r with | cons r2 r =>
            cases r
            cases rz
            exact ⟨[u0, u1, u2], rfl, (.cons r0 (.cons r1 (.cons r2 .nil)))⟩) all_nilQ)⟩
  have F2 : FunD K "check_size" "check_size" (defArgs s_check_size) (defBody s_check_size) (defScope s_check_size) [] [] f2 _ := ⟨⟨_, _, _, _, _, _, _, _, _, _, rfl, l2, c2, .inl ⟨rfl, rfl⟩, .inl rfl⟩, k2⟩
  have D_2 : DefX K mg "check_size" s_check_size ["size"] pats_check_size := ⟨_, _, _, _, F2, PySem.W.mg_of X G a2, (all_consQ (Bnd.all fun us ws vs zs l1 l2 r rz => by
      obtain ⟨u0, rfl⟩ := len1 (r.length.symm.trans l1)
      obtain rfl := len0 (rz.length.symm.trans l2)
      cases r with | cons r0 r =>
        cases r
        cases rz
        exact ⟨[u0], rfl, (.cons r0 .nil)⟩) all_nilQ)⟩
  have F3 : FunD K "check_square" "check_square" (defArgs s_check_square) (defBody s_check_square) (defScope s_check_square) [] [] f3 _ := ⟨⟨_, _, _, _, _, _, _, _, _, _, rfl, l3, c3, .inl ⟨rfl, rfl⟩, .inl rfl⟩, k3⟩
  have D_3 : DefX K mg "check_square" s_check_square ["square"] pats_check_square := ⟨_, _, _, _, F3, PySem.W.mg_of X G a3, (all_consQ (Bnd.all fun us ws vs zs l1 l2 r rz => by
      obtain ⟨u0, rfl⟩ := len1 (r.length.symm.trans l1)
      obtain rfl := len0 (rz.length.symm.trans l2)
      cases r with | cons r0 r =>
        cases r
        cases rz
        exact ⟨[u0], rfl, (.cons r0 .nil)⟩) all_nilQ)⟩
  have F4 : FunD K "transposed" "transposed" (defArgs s_transposed) (defBody s_transposed) (defScope s_transposed) [] [] f4 _ := ⟨⟨_, _, _, _, _, _, _, _, _, _, rfl, l4, c4, .inl ⟨rfl, rfl⟩, .inl rfl⟩, k4⟩
  have D_4 : DefX K mg "transposed" s_transposed ["rows"] pats_transposed := ⟨_, _, _, _, F4, PySem.W.mg_of X G a4, (all_consQ (Bnd.all fun us ws vs zs l1 l2 r rz => by
      obtain ⟨u0, rfl⟩ := len1 (r.length.symm.trans l1)
      obtain rfl := len0 (rz.length.symm.trans l2)
      cases r with | cons r0 r =>
        cases r
        cases rz
        exact ⟨[u0], rfl, (.cons r0 .nil)⟩) all_nilQ)⟩
  have F5 : FunD K "split_pair" "split_pair" (defArgs s_split_pair) (defBody s_split_pair) (defScope s_split_pair) [] [] f5 _ := ⟨⟨_, _, _, _, _, _, _, _, _, _, rfl, l5, c5, .inl ⟨rfl, rfl⟩, .inl rfl⟩, k5⟩
  have D_5 : DefX K mg "split_pair" s_split_pair ["first", "second"] pats_split_pair := ⟨_, _, _, _, F5, PySem.W.mg_of X G a5, (all_consQ (Bnd.all fun us ws vs zs l1 l2 r rz => by
      obtain ⟨u0, u1, rfl⟩ := len2 (r.length.symm.trans l1)
      obtain rfl := len0 (rz.length.symm.trans l2)
      cases r with | cons r0 r =>
        cases r with | cons r1 r =>
          cases r
          cases rz
          exact ⟨[u0, u1], rfl, (.cons r0 (.cons r1 .nil))⟩) all_nilQ)⟩
  have F6 : FunD K "turn_pair" "turn_pair" (defArgs s_turn_pair) (defBody s_turn_pair) (defScope s_turn_pair) [] [] f6 _ := ⟨⟨_, _, _, _, _, _, _, _, _, _, rfl, l6, c6, .inl ⟨rfl, rfl⟩, .inl rfl⟩, k6⟩
  have D_6 : DefX K mg "turn_pair" s_turn_pair ["first", "second", "outer", "inner"] pats_turn_pair := ⟨_, _, _, _, F6, PySem.W.mg_of X G a6, (all_consQ (Bnd.all fun us ws vs zs l1 l2 r rz => by
      obtain ⟨u0, u1, rfl⟩ := len2 (r.length.symm.trans l1)
      obtain ⟨w0, w1, rfl⟩ := len2 (rz.length.symm.trans l2)
      cases r with | cons r0 r =>
        cases r with | cons r1 r =>
          cases r
          cases rz with | cons q0 rz =>
            cases rz with | cons q1 rz =>
              cases rz
              exact ⟨[u0, u1, w0, w1], rfl, (.cons r0 (.cons r1 (.cons q0 (.cons q1 .nil))))⟩) all_nilQ)⟩
  have F7 : FunD K "_forward_four" "_forward_four" (defArgs s__forward_four) (defBody s__forward_four) (defScope s__forward_four) [] [] f7 _ := ⟨⟨_, _, _, _, _, _, _, _, _, _, rfl, l7, c7, .inl ⟨rfl, rfl⟩, .inl rfl⟩, k7⟩
  have D_7 : DefX K mg "_forward_four" s__forward_four ["values"] pats__forward_four := ⟨_, _, _, _, F7, PySem.W.mg_of X G a7, (all_consQ (Bnd.all fun us ws vs zs l1 l2 r rz => by
      obtain ⟨u0, rfl⟩ := len1 (r.length.symm.trans l1)
      obtain rfl := len0 (rz.length.symm.trans l2)
      cases r with | cons r0 r =>
        cases r
        cases rz
        exact ⟨[u0], rfl, (.cons r0 .nil)⟩) all_nilQ)⟩
  have F8 : FunD K "_forward_eight" "_forward_eight" (defArgs s__forward_eight) (defBody s__forward_eight) (defScope s__forward_eight) [] [] f8 _ := ⟨⟨_, _, _, _, _, _, _, _, _, _, rfl, l8, c8, .inl ⟨rfl, rfl⟩, .inl rfl⟩, k8⟩
  have D_8 : DefX K mg "_forward_eight" s__forward_eight ["values"] pats__forward_eight := ⟨_, _, _, _, F8, PySem.W.mg_of X G a8, (all_consQ (Bnd.all fun us ws vs zs l1 l2 r rz => by
      obtain ⟨u0, rfl⟩ := len1 (r.length.symm.trans l1)
      obtain rfl := len0 (rz.length.symm.trans l2)
      cases r with | cons r0 r =>
        cases r
        cases rz
        exact ⟨[u0], rfl, (.cons r0 .nil)⟩) all_nilQ)⟩
  have F9 : FunD K "forward" "forward" (defArgs s_forward) (defBody s_forward) (defScope s_forward) [] [] f9 _ := ⟨⟨_, _, _, _, _, _, _, _, _, _, rfl, l9, c9, .inl ⟨rfl, rfl⟩, .inl rfl⟩, k9⟩
  have D_9 : DefX K mg "forward" s_forward ["values"] pats_forward := ⟨_, _, _, _, F9, PySem.W.mg_of X G a9, (all_consQ (Bnd.all fun us ws vs zs l1 l2 r rz => by
      obtain ⟨u0, rfl⟩ := len1 (r.length.symm.trans l1)
      obtain rfl := len0 (rz.length.symm.trans l2)
      cases r with | cons r0 r =>
        cases r
        cases rz
        exact ⟨[u0], rfl, (.cons r0 .nil)⟩) all_nilQ)⟩
  have F10 : FunD K "forward_square" "forward_square" (defArgs s_forward_square) (defBody s_forward_square) (defScope s_forward_square) [] [] f10 _ := ⟨⟨_, _, _, _, _, _, _, _, _, _, rfl, l10, c10, .inl ⟨rfl, rfl⟩, .inl rfl⟩, k10⟩
  have D_10 : DefX K mg "forward_square" s_forward_square ["square"] pats_forward_square := ⟨_, _, _, _, F10, PySem.W.mg_of X G a10, (all_consQ (Bnd.all fun us ws vs zs l1 l2 r rz => by
      obtain ⟨u0, rfl⟩ := len1 (r.length.symm.trans l1)
      obtain rfl := len0 (rz.length.symm.trans l2)
      cases r with | cons r0 r =>
        cases r
        cases rz
        exact ⟨[u0], rfl, (.cons r0 .nil)⟩) all_nilQ)⟩
  have F11 : FunD K "turn_back" "turn_back" (defArgs s_turn_back) (defBody s_turn_back) (defScope s_turn_back) [] [] f11 _ := ⟨⟨_, _, _, _, _, _, _, _, _, _, rfl, l11, c11, .inl ⟨rfl, rfl⟩, .inl rfl⟩, k11⟩
  have D_11 : DefX K mg "turn_back" s_turn_back ["first", "second", "outer", "inner"] pats_turn_back := ⟨_, _, _, _, F11, PySem.W.mg_of X G a11, (all_consQ (Bnd.all fun us ws vs zs l1 l2 r rz => by
      obtain ⟨u0, u1, rfl⟩ := len2 (r.length.symm.trans l1)
      obtain ⟨w0, w1, rfl⟩ := len2 (rz.length.symm.trans l2)
      cases r with | cons r0 r =>
        cases r with | cons r1 r =>
          cases r
          cases rz with | cons q0 rz =>
            cases rz with | cons q1 rz =>
              cases rz
              exact ⟨[u0, u1, w0, w1], rfl, (.cons r0 (.cons r1 (.cons q0 (.cons q1 .nil))))⟩) all_nilQ)⟩
  have F12 : FunD K "join_pair" "join_pair" (defArgs s_join_pair) (defBody s_join_pair) (defScope s_join_pair) [] [] f12 _ := ⟨⟨_, _, _, _, _, _, _, _, _, _, rfl, l12, c12, .inl ⟨rfl, rfl⟩, .inl rfl⟩, k12⟩
  have D_12 : DefX K mg "join_pair" s_join_pair ["low", "high"] pats_join_pair := ⟨_, _, _, _, F12, PySem.W.mg_of X G a12, (all_consQ (Bnd.all fun us ws vs zs l1 l2 r rz => by
      obtain ⟨u0, u1, rfl⟩ := len2 (r.length.symm.trans l1)
      obtain rfl := len0 (rz.length.symm.trans l2)
      cases r with | cons r0 r =>
        cases r with | cons r1 r =>
          cases r
          cases rz
          exact ⟨[u0, u1], rfl, (.cons r0 (.cons r1 .nil))⟩) all_nilQ)⟩
  have F13 : FunD K "_inverse_four" "_inverse_four" (defArgs s__inverse_four) (defBody s__inverse_four) (defScope s__inverse_four) [] [] f13 _ := ⟨⟨_, _, _, _, _, _, _, _, _, _, rfl, l13, c13, .inl ⟨rfl, rfl⟩, .inl rfl⟩, k13⟩
  have D_13 : DefX K mg "_inverse_four" s__inverse_four ["values"] pats__inverse_four := ⟨_, _, _, _, F13, PySem.W.mg_of X G a13, (all_consQ (Bnd.all fun us ws vs zs l1 l2 r rz => by
      obtain ⟨u0, rfl⟩ := len1 (r.length.symm.trans l1)
      obtain rfl := len0 (rz.length.symm.trans l2)
      cases r with | cons r0 r =>
        cases r
        cases rz
        exact ⟨[u0], rfl, (.cons r0 .nil)⟩) all_nilQ)⟩
  have F14 : FunD K "_inverse_eight" "_inverse_eight" (defArgs s__inverse_eight) (defBody s__inverse_eight) (defScope s__inverse_eight) [] [] f14 _ := ⟨⟨_, _, _, _, _, _, _, _, _, _, rfl, l14, c14, .inl ⟨rfl, rfl⟩, .inl rfl⟩, k14⟩
  have D_14 : DefX K mg "_inverse_eight" s__inverse_eight ["values"] pats__inverse_eight := ⟨_, _, _, _, F14, PySem.W.mg_of X G a14, (all_consQ (Bnd.all fun us ws vs zs l1 l2 r rz => by
      obtain ⟨u0, rfl⟩ := len1 (r.length.symm.trans l1)
      obtain rfl := len0 (rz.length.symm.trans l2)
      cases r with | cons r0 r =>
        cases r
        cases rz
        exact ⟨[u0], rfl, (.cons r0 .nil)⟩) all_nilQ)⟩
  have F15 : FunD K "inverse" "inverse" (defArgs s_inverse) (defBody s_inverse) (defScope s_inverse) [] [] f15 _ := ⟨⟨_, _, _, _, _, _, _, _, _, _, rfl, l15, c15, .inl ⟨rfl, rfl⟩, .inl rfl⟩, k15⟩
  have D_15 : DefX K mg "inverse" s_inverse ["values"] pats_inverse := ⟨_, _, _, _, F15, PySem.W.mg_of X G a15, (all_consQ (Bnd.all fun us ws vs zs l1 l2 r rz => by
      obtain ⟨u0, rfl⟩ := len1 (r.length.symm.trans l1)
      obtain rfl := len0 (rz.length.symm.trans l2)
      cases r with | cons r0 r =>
        cases r
        cases rz
        exact ⟨[u0], rfl, (.cons r0 .nil)⟩) all_nilQ)⟩
  have F16 : FunD K "inverse_square" "inverse_square" (defArgs s_inverse_square) (defBody s_inverse_square) (defScope s_inverse_square) [] [] f16 _ := ⟨⟨_, _, _, _, _, _, _, _, _, _, rfl, l16, c16, .inl ⟨rfl, rfl⟩, .inl rfl⟩, k16⟩
  have D_16 : DefX K mg "inverse_square" s_inverse_square ["square"] pats_inverse_square := ⟨_, _, _, _, F16, PySem.W.mg_of X G a16, (all_consQ (Bnd.all fun us ws vs zs l1 l2 r rz => by
      obtain ⟨u0, rfl⟩ := len1 (r.length.symm.trans l1)
      obtain rfl := len0 (rz.length.symm.trans l2)
      cases r with | cons r0 r =>
        cases r
        cases rz
        exact ⟨[u0], rfl, (.cons r0 .nil)⟩) all_nilQ)⟩
  have F17 : FunD K "_law_cell" "_law_cell" (defArgs s__law_cell) (defBody s__law_cell) (defScope s__law_cell) [] [] f17 _ := ⟨⟨_, _, _, _, _, _, _, _, _, _, rfl, l17, c17, .inl ⟨rfl, rfl⟩, .inl rfl⟩, k17⟩
  have D_17 : DefX K mg "_law_cell" s__law_cell ["script", "k"] pats__law_cell := ⟨_, _, _, _, F17, PySem.W.mg_of X G a17, (all_consQ (Bnd.all fun us ws vs zs l1 l2 r rz => by
      obtain ⟨u0, u1, rfl⟩ := len2 (r.length.symm.trans l1)
      obtain rfl := len0 (rz.length.symm.trans l2)
      cases r with | cons r0 r =>
        cases r with | cons r1 r =>
          cases r
          cases rz
          exact ⟨[u0, u1], rfl, (.cons r0 (.cons r1 .nil))⟩) all_nilQ)⟩
  have F18 : FunD K "_law_is_square" "_law_is_square" (defArgs s__law_is_square) (defBody s__law_is_square) (defScope s__law_is_square) [] [] f18 _ := ⟨⟨_, _, _, _, _, _, _, _, _, _, rfl, l18, c18, .inl ⟨rfl, rfl⟩, .inl rfl⟩, k18⟩
  have D_18 : DefX K mg "_law_is_square" s__law_is_square ["actual", "size"] pats__law_is_square := ⟨_, _, _, _, F18, PySem.W.mg_of X G a18, (all_consQ (Bnd.all fun us ws vs zs l1 l2 r rz => by
      obtain ⟨u0, u1, rfl⟩ := len2 (r.length.symm.trans l1)
      obtain rfl := len0 (rz.length.symm.trans l2)
      cases r with | cons r0 r =>
        cases r with | cons r1 r =>
          cases r
          cases rz
          exact ⟨[u0, u1], rfl, (.cons r0 (.cons r1 .nil))⟩) all_nilQ)⟩
  have F19 : FunD K "_law_passes" "_law_passes" (defArgs s__law_passes) (defBody s__law_passes) (defScope s__law_passes) [] [] f19 _ := ⟨⟨_, _, _, _, _, _, _, _, _, _, rfl, l19, c19, .inl ⟨rfl, rfl⟩, .inl rfl⟩, k19⟩
  have D_19 : DefX K mg "_law_passes" s__law_passes ["rows", "size"] pats__law_passes := ⟨_, _, _, _, F19, PySem.W.mg_of X G a19, (all_consQ (Bnd.all fun us ws vs zs l1 l2 r rz => by
      obtain ⟨u0, u1, rfl⟩ := len2 (r.length.symm.trans l1)
      obtain rfl := len0 (rz.length.symm.trans l2)
      cases r with | cons r0 r =>
        cases r with | cons r1 r =>
          cases r
          cases rz
          exact ⟨[u0, u1], rfl, (.cons r0 (.cons r1 .nil))⟩) all_nilQ)⟩
  have F20 : FunD K "_law_refused" "_law_refused" (defArgs s__law_refused) (defBody s__law_refused) (defScope s__law_refused) [] [] f20 _ := ⟨⟨_, _, _, _, _, _, _, _, _, _, rfl, l20, c20, .inl ⟨rfl, rfl⟩, .inl rfl⟩, k20⟩
  have D_20 : DefX K mg "_law_refused" s__law_refused ["rows"] pats__law_refused := ⟨_, _, _, _, F20, PySem.W.mg_of X G a20, (all_consQ (Bnd.all fun us ws vs zs l1 l2 r rz => by
      obtain ⟨u0, rfl⟩ := len1 (r.length.symm.trans l1)
      obtain rfl := len0 (rz.length.symm.trans l2)
      cases r with | cons r0 r =>
        cases r
        cases rz
        exact ⟨[u0], rfl, (.cons r0 .nil)⟩) all_nilQ)⟩
  have F21 : FunD K "law" "law" (defArgs s_law) (defBody s_law) (defScope s_law) [] [] _ _ := ⟨⟨_, _, _, _, _, _, _, _, _, _, rfl, l21, c21, .inl ⟨rfl, rfl⟩, .inl rfl⟩, k21⟩
  have R__law_digits : ∀ base : Heap, CalX l.prog w K mg base 1 "_law_digits" (sp__law_digits K ⟨fa, XOutOfRange, TG_SIZES, fa⟩) pats__law_digits := fun base => ok__law_digits D_0 T 
  have R__law_rows : ∀ base : Heap, CalX l.prog w K mg base 2 "_law_rows" (sp__law_rows K ⟨fa, XOutOfRange, TG_SIZES, fa⟩) pats__law_rows := fun base => ok__law_rows D_1 T (R__law_digits base)
  have R_check_size : ∀ base : Heap, CalX l.prog w K mg base 1 "check_size" (sp_check_size K ⟨fa, XOutOfRange, TG_SIZES, fa⟩) pats_check_size := fun base => ok_check_size D_2 T 
  have R_check_square : ∀ base : Heap, CalX l.prog w K mg base 2 "check_square" (sp_check_square K ⟨fa, XOutOfRange, TG_SIZES, fa⟩) pats_check_square := fun base => ok_check_square D_3 T (R_check_size base)
  have R_transposed : ∀ base : Heap, CalX l.prog w K mg base 1 "transposed" (sp_transposed K ⟨fa, XOutOfRange, TG_SIZES, fa⟩) pats_transposed := fun base => ok_transposed D_4 T 
  have R_split_pair : ∀ base : Heap, CalX l.prog w K mg base 1 "split_pair" (sp_split_pair K ⟨fa, XOutOfRange, TG_SIZES, fa⟩) pats_split_pair := fun base => ok_split_pair D_5 T 
  have R_turn_pair : ∀ base : Heap, CalX l.prog w K mg base 1 "turn_pair" (sp_turn_pair K ⟨fa, XOutOfRange, TG_SIZES, fa⟩) pats_turn_pair := fun base => ok_turn_pair D_6 T 
  have R__forward_four : ∀ base : Heap, CalX l.prog w K mg base 2 "_forward_four" (sp__forward_four K ⟨fa, XOutOfRange, TG_SIZES, fa⟩) pats__forward_four := fun base => ok__forward_four D_7 T (R_split_pair base) (R_turn_pair base)
  have R__forward_eight : ∀ base : Heap, CalX l.prog w K mg base 3 "_forward_eight" (sp__forward_eight K ⟨fa, XOutOfRange, TG_SIZES, fa⟩) pats__forward_eight := fun base => ok__forward_eight D_8 T (R_split_pair base) (R__forward_four base) (R_turn_pair base)
  have R_forward : ∀ base : Heap, CalX l.prog w K mg base 4 "forward" (sp_forward K ⟨fa, XOutOfRange, TG_SIZES, fa⟩) pats_forward := fun base => ok_forward D_9 T (R_check_size base) (R__forward_four base) (R__forward_eight base)
  have R_forward_square : ∀ base : Heap, CalX l.prog w K mg base 5 "forward_square" (sp_forward_square K ⟨fa, XOutOfRange, TG_SIZES, fa⟩) pats_forward_square := fun base => ok_forward_square D_10 T (R_check_square base) (R_forward base) (R_transposed base)
  have R_turn_back : ∀ base : Heap, CalX l.prog w K mg base 1 "turn_back" (sp_turn_back K ⟨fa, XOutOfRange, TG_SIZES, fa⟩) pats_turn_back := fun base => ok_turn_back D_11 T 
  have R_join_pair : ∀ base : Heap, CalX l.prog w K mg base 1 "join_pair" (sp_join_pair K ⟨fa, XOutOfRange, TG_SIZES, fa⟩) pats_join_pair := fun base => ok_join_pair D_12 T 
  have R__inverse_four : ∀ base : Heap, CalX l.prog w K mg base 2 "_inverse_four" (sp__inverse_four K ⟨fa, XOutOfRange, TG_SIZES, fa⟩) pats__inverse_four := fun base => ok__inverse_four D_13 T (R_turn_back base) (R_join_pair base)
  have R__inverse_eight : ∀ base : Heap, CalX l.prog w K mg base 3 "_inverse_eight" (sp__inverse_eight K ⟨fa, XOutOfRange, TG_SIZES, fa⟩) pats__inverse_eight := fun base => ok__inverse_eight D_14 T (R_join_pair base) (R_turn_back base) (R__inverse_four base)
  have R_inverse : ∀ base : Heap, CalX l.prog w K mg base 4 "inverse" (sp_inverse K ⟨fa, XOutOfRange, TG_SIZES, fa⟩) pats_inverse := fun base => ok_inverse D_15 T (R_check_size base) (R__inverse_four base) (R__inverse_eight base)
  have R_inverse_square : ∀ base : Heap, CalX l.prog w K mg base 5 "inverse_square" (sp_inverse_square K ⟨fa, XOutOfRange, TG_SIZES, fa⟩) pats_inverse_square := fun base => ok_inverse_square D_16 T (R_check_square base) (R_transposed base) (R_inverse base)
  have R__law_cell : ∀ base : Heap, CalX l.prog w K mg base 1 "_law_cell" (sp__law_cell K ⟨fa, XOutOfRange, TG_SIZES, fa⟩) pats__law_cell := fun base => ok__law_cell D_17 T 
  have R__law_is_square : ∀ base : Heap, CalX l.prog w K mg base 1 "_law_is_square" (sp__law_is_square K ⟨fa, XOutOfRange, TG_SIZES, fa⟩) pats__law_is_square := fun base => ok__law_is_square D_18 T 
  have R__law_passes : ∀ base : Heap, CalX l.prog w K mg base 5 "_law_passes" (sp__law_passes K ⟨fa, XOutOfRange, TG_SIZES, fa⟩) pats__law_passes := fun base => ok__law_passes D_19 T (R_forward base)
  have R__law_refused : ∀ base : Heap, CalX l.prog w K mg base 6 "_law_refused" (sp__law_refused K ⟨fa, XOutOfRange, TG_SIZES, fa⟩) pats__law_refused := fun base => ok__law_refused D_20 T (R_forward_square base) (R_inverse_square base)

  refine ⟨PySem.W.fnOf "law" "law" (defArgs s_law) (defBody s_law) (defScope s_law) .none kV21 dc21 pm21 an21 cd21 ct21, fun s v => .of_eq rfl, fun base _ _ => (ok_law (AD := ⟨fa, XOutOfRange, TG_SIZES, fa⟩) F21 T (R__law_cell base) (R__law_rows base) (R_forward_square base) (R__law_passes base) (R__law_is_square base) (R_inverse_square base) (R__law_refused base)).imp ?_⟩
  rintro vs H Q E ⟨a, xs, rfl, hs, hl, q⟩
  exact ⟨a, xs, rfl, hs, by rw [law_true xs hl]; exact cW_mk rfl, q⟩
end Vx
open PySem PySem.W PyProof.Rows
set_option maxRecDepth 100000 in
set_option maxHeartbeats 0 in
theorem PySem.Challenge.cw_thaumatrope_k43_squares_transformed_holds : PySem.Challenge.rw_thaumatrope_k43_squares_transformed.Holds := by
  w_on; o_law; k_head; (case hw => w_witness2)
  k_fill
  refine Vx.walkG (l := PySem.Challenge.rw_thaumatrope_k43_squares_transformed) (n := 63) (k := 7) (x := "script") rfl (by decide) rfl ⟨rfl, by decide, by decide⟩ (fun w h Y => PySem.W.kIn_of Y) ?F
  case F =>
    intro w mg fa h KX G hmg
    refine' Vx.all_mk KX G hmg ?vOutOfRange ?a0 ?l0 ?c0 ?k0 ?a1 ?l1 ?c1 ?k1 ?a2 ?l2 ?c2 ?k2 ?a3 ?l3 ?c3 ?k3 ?a4 ?l4 ?c4 ?k4 ?a5 ?l5 ?c5 ?k5 ?a6 ?l6 ?c6 ?k6 ?a7 ?l7 ?c7 ?k7 ?a8 ?l8 ?c8 ?k8 ?a9 ?l9 ?c9 ?k9 ?a10 ?l10 ?c10 ?k10 ?a11 ?l11 ?c11 ?k11 ?a12 ?l12 ?c12 ?k12 ?a13 ?l13 ?c13 ?k13 ?a14 ?l14 ?c14 ?k14 ?a15 ?l15 ?c15 ?k15 ?a16 ?l16 ?c16 ?k16 ?a17 ?l17 ?c17 ?k17 ?a18 ?l18 ?c18 ?k18 ?a19 ?l19 ?c19 ?k19 ?a20 ?l20 ?c20 ?k20 ?a21 ?l21 ?c21 ?k21 ?z0 ?z1 ?z2 ?y2 ?z3 ?z4 ?z5 ?z6 ?z7 ?z8 ?z9 ?z10 ?z11 ?exOutOfRange ?ekOutOfRange ?ebOutOfRange ?etOutOfRange ?eiOutOfRangeOutOfRange ?esOutOfRangeOutOfRange
    (case vOutOfRange => k_is)
    (case a0 => k_is)
    (case l0 => k_is)
    (case c0 => k_is)
    (case k0 => k_is)
    (case a1 => k_is)
    (case l1 => k_is)
    (case c1 => k_is)
    (case k1 => k_is)
    (case a2 => k_is)
    (case l2 => k_is)
    (case c2 => k_is)
    (case k2 => k_is)
    (case a3 => k_is)
    (case l3 => k_is)
    (case c3 => k_is)
    (case k3 => k_is)
    (case a4 => k_is)
    (case l4 => k_is)
    (case c4 => k_is)
    (case k4 => k_is)
    (case a5 => k_is)
    (case l5 => k_is)
    (case c5 => k_is)
    (case k5 => k_is)
    (case a6 => k_is)
    (case l6 => k_is)
    (case c6 => k_is)
    (case k6 => k_is)
    (case a7 => k_is)
    (case l7 => k_is)
    (case c7 => k_is)
    (case k7 => k_is)
    (case a8 => k_is)
    (case l8 => k_is)
    (case c8 => k_is)
    (case k8 => k_is)
    (case a9 => k_is)
    (case l9 => k_is)
    (case c9 => k_is)
    (case k9 => k_is)
    (case a10 => k_is)
    (case l10 => k_is)
    (case c10 => k_is)
    (case k10 => k_is)
    (case a11 => k_is)
    (case l11 => k_is)
    (case c11 => k_is)
    (case k11 => k_is)
    (case a12 => k_is)
    (case l12 => k_is)
    (case c12 => k_is)
    (case k12 => k_is)
    (case a13 => k_is)
    (case l13 => k_is)
    (case c13 => k_is)
    (case k13 => k_is)
    (case a14 => k_is)
    (case l14 => k_is)
    (case c14 => k_is)
    (case k14 => k_is)
    (case a15 => k_is)
    (case l15 => k_is)
    (case c15 => k_is)
    (case k15 => k_is)
    (case a16 => k_is)
    (case l16 => k_is)
    (case c16 => k_is)
    (case k16 => k_is)
    (case a17 => k_is)
    (case l17 => k_is)
    (case c17 => k_is)
    (case k17 => k_is)
    (case a18 => k_is)
    (case l18 => k_is)
    (case c18 => k_is)
    (case k18 => k_is)
    (case a19 => k_is)
    (case l19 => k_is)
    (case c19 => k_is)
    (case k19 => k_is)
    (case a20 => k_is)
    (case l20 => k_is)
    (case c20 => k_is)
    (case k20 => k_is)
    (case a21 => k_is)
    (case l21 => k_is)
    (case c21 => k_is)
    (case k21 => k_is)
    (case z0 => k_is)
    (case z1 => k_is)
    (case z2 => k_is)
    (case y2 => k_is)
    (case z3 => k_is)
    (case z4 => k_is)
    (case z5 => k_is)
    (case z6 => k_is)
    (case z7 => k_is)
    (case z8 => k_is)
    (case z9 => k_is)
    (case z10 => k_is)
    (case z11 => k_is)
    (case exOutOfRange => k_exc)
    (case ekOutOfRange => k_is)
    (case ebOutOfRange => k_is)
    (case etOutOfRange => k_is)
    (case eiOutOfRangeOutOfRange => k_is)
    (case esOutOfRangeOutOfRange => first | rfl | k_is)
