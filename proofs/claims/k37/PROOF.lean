import PyProof.Rows.All
import Wide.All
import OpenK.AllK
import Wide.FinOn
import HandS.ForMost
import HandS.Codes
import HandS.Steps
import HandS.IsInst
import HandS.Property
import HandS.Wide
import HandS.WideBits
import HandS.Exc
import HandS.Defaults
import HandS.ExcOwn
import HandS.TryOnly
import HandS.WordsExc
import HandS.ExcIs
import HandS.MakeKwOnly
import HandS.RaiseMore
import HandS.Style
import HandS.Zip
import HandS.Iter
import HandS.Star
import HandS.Walk
import HandS.More
import HandS.SetFor
import HandS.Strs
import PySem.Challenge.RW_thaumatrope_k37_areas_predicted_by_motio
set_option Elab.async false
set_option linter.all false
set_option maxRecDepth 100000
set_option maxHeartbeats 8000000
namespace Vx
open PySem PySem.Spec PyProof.Rows L2

/-! ### heaps -/
def SameX (m : Addr) (H H' : Hp) : Prop := ∀ b o, H b = some o → b ≠ m → H' b = some o
theorem gen_new {H H' : Hp} {p : Addr} {o : HO} (n : H p = none) (h : upd H p o = H') : Same H H' ∧ H' p = some o := by
  subst h
  exact ⟨fun b u e => by rw [upd_ne (ne_of_none e n)]; exact e, upd_same⟩
theorem gen_mut {H H' : Hp} {m : Addr} {o : HO} (h : upd H m o = H') : SameX m H H' ∧ H' m = some o := by
  subst h
  exact ⟨fun b u e n => by rw [upd_ne n]; exact e, upd_same⟩
theorem same_mut {H0 H H' : Hp} {m : Addr} (B : Same H0 H) (x : SameX m H H') (f : H0 m = none) : Same H0 H' :=
  fun b o e => x b o (B b o e) (ne_of_none e f)
theorem map_get {xs : List Int} {i : Nat} {x : V} (h : (xs.map V.int)[i]? = some x) : ∃ o, xs[i]? = some o ∧ x = .int o := by
  rw [List.getElem?_map] at h
  cases e : xs[i]? with
  | none => rw [e] at h; cases h
  | some z => rw [e] at h; exact ⟨z, rfl, (Option.some.inj h).symm⟩
theorem get_len {α : Type} {xs : List α} {i : Nat} {x : α} (h : xs[i]? = some x) : i < xs.length := (List.getElem?_eq_some_iff.mp h).1
theorem eq_int {Q : VK} {H : Hp} {a b : Int} (h : Q (.int a) H) (e : a = b) : Q (.int b) H := e ▸ h
theorem eq_bl {Q : VK} {H : Hp} {a b : Bool} (h : Q (.bl a) H) (e : a = b) : Q (.bl b) H := e ▸ h
theorem small {n : Nat} (h : n ≤ 1000000) : n < sizeLine := Nat.lt_of_le_of_lt h (by decide)
theorem smallE {n : Nat} (h : n ≤ 1000000) : n ≤ sizeLine := Nat.le_of_lt (small h)
theorem snoc_int {xs : List Int} {y : Int} {H : Hp} {p : Addr} (h : H p = some (.lst (xs.map V.int ++ [V.int y]))) : H p = some (.lst ((xs ++ [y]).map V.int)) := by
  rw [List.map_append]; exact h
theorem cat_int {xs ys : List Int} {H : Hp} {p : Addr} (h : H p = some (.lst (xs.map V.int ++ ys.map V.int))) : H p = some (.lst ((xs ++ ys).map V.int)) := by
  rw [List.map_append]; exact h
theorem cast_lst {xs ys : List Int} {H : Hp} {p : Addr} (h : H p = some (.lst (xs.map V.int))) (e : xs = ys) : H p = some (.lst (ys.map V.int)) := e ▸ h

/-! ### tests -/
theorem dT {p : Prop} [Decidable p] (h : decide p = true) : p := of_decide_eq_true h
theorem dF {p : Prop} [Decidable p] (h : ¬ decide p = true) : ¬ p := fun x => h (decide_eq_true x)
theorem iteD {p A B : Prop} [Decidable p] (h1 : p → A) (h2 : ¬ p → B) : if decide p = true then A else B := by
  by_cases h : p
  · rw [if_pos (decide_eq_true h)]; exact h1 h
  · rw [if_neg (fun x => h (of_decide_eq_true x))]; exact h2 h
theorem iteN {p A B : Prop} [Decidable p] (h1 : ¬ p → A) (h2 : p → B) : if (!decide p) = true then A else B := by
  by_cases h : p
  · rw [decide_eq_true h]; exact iteF (h2 h)
  · rw [decide_eq_false h]; exact iteT (h1 h)
theorem iteB {b : Bool} {A B : Prop} (h1 : b = true → A) (h2 : b = false → B) : if b = true then A else B := by
  cases b with
  | true => exact iteT (h1 rfl)
  | false => exact iteF (h2 rfl)
theorem iteBN {b : Bool} {A B : Prop} (h1 : b = false → A) (h2 : b = true → B) : if (!b) = true then A else B := by
  cases b with
  | true => exact iteF (h2 rfl)
  | false => exact iteT (h1 rfl)
theorem iteDT {p A B : Prop} [Decidable p] (h : p) (k : A) : if decide p = true then A else B := by
  rw [if_pos (decide_eq_true h)]; exact k
theorem iteDF {p A B : Prop} [Decidable p] (h : ¬ p) (k : B) : if decide p = true then A else B := by
  rw [if_neg (fun x => h (of_decide_eq_true x))]; exact k
theorem iteNT {p A B : Prop} [Decidable p] (h : ¬ p) (k : A) : if (!decide p) = true then A else B := iteN (fun _ => k) (fun x => (h x).elim)
theorem iteNF {p A B : Prop} [Decidable p] (h : p) (k : B) : if (!decide p) = true then A else B := iteN (fun x => (x h).elim) (fun _ => k)

/-! ### equality of lists of ints -/
theorem eqvAll_ints : ∀ xs ys : List Int, PyData.eqvAll (xs.map PyData.int) (ys.map PyData.int) = decide (xs = ys)
  | [], [] => by simp [PyData.eqvAll]
  | [], y :: ys => by simp [PyData.eqvAll]
  | x :: xs, [] => by simp [PyData.eqvAll]
  | x :: xs, y :: ys => by
    have ih := eqvAll_ints xs ys
    simp only [List.map_cons, PyData.eqvAll, PyData.eqv, ih]
    by_cases h : x = y <;> by_cases h2 : xs = ys <;> simp [h, h2]
end Vx

namespace Vx
open PySem PySem.Spec PyProof.Rows L2
section
variable {X : Cx}
def rEqLi (K : PySem.W.Frag) : R2 := fun x y H Q => ∃ (a b : Addr) (xs ys : List Int), x = .ref a ∧ y = .ref b ∧ SqL K H a (xs.map V.int) ∧ SqL K H b (ys.map V.int) ∧ Q (.bl (decide (xs = ys))) H
def rNeLi (K : PySem.W.Frag) : R2 := fun x y H Q => ∃ (a b : Addr) (xs ys : List Int), x = .ref a ∧ y = .ref b ∧ SqL K H a (xs.map V.int) ∧ SqL K H b (ys.map V.int) ∧ Q (.bl (!decide (xs = ys))) H
theorem dpAll_ints {K : PySem.W.Frag} {H : Hp} : ∀ xs : List Int, DpAll K H (xs.map V.int) (xs.map PyData.int)
  | [] => .nil
  | x :: xs => .cons (.int x) (dpAll_ints xs)
theorem dp_ints {K : PySem.W.Frag} {H : Hp} {a : Addr} {xs : List Int} (h : SqL K H a (xs.map V.int)) : Dp K H (.ref a) (.list (xs.map PyData.int)) := .lst h (dpAll_ints xs)
theorem canLay_ints : ∀ xs : List Int, PyData.canLayAll0 (xs.map PyData.int) = true
  | [] => by simp [PyData.canLayAll0]
  | x :: xs => by simp [PyData.canLayAll0, PyData.canLay0, canLay_ints xs]
theorem depth_ints : ∀ xs : List Int, PyData.depthAll (xs.map PyData.int) = 0
  | [] => by simp [PyData.depthAll]
  | x :: xs => by simp [PyData.depthAll, PyData.depth, depth_ints xs]
theorem shaped_ints (xs : List Int) : SeqAt.shaped (.list (xs.map PyData.int)) = true := by
  unfold SeqAt.shaped
  simp [PyData.canLay0, canLay_ints, PyData.depth, depth_ints]
theorem eqv_ints (xs ys : List Int) : PyData.eqv (.list (xs.map PyData.int)) (.list (ys.map PyData.int)) = decide (xs = ys) := by
  simp only [PyData.eqv]
  exact eqvAll_ints xs ys
theorem op_eqLi (hu : X.A.units + 64 < cLine) : OpR X (compareOp .Eq) (rEqLi X.K) := by
  intro pins s σ H x y v u Q I rx ry h
  obtain ⟨a, b, xs, ys, rfl, rfl, h1, h2, q⟩ := h
  exact op_eqD hu pins s σ H _ _ v u Q I rx ry ⟨_, _, dp_ints h1, dp_ints h2, shaped_ints xs, shaped_ints ys, by rw [eqv_ints]; exact q⟩
theorem op_neLi (hu : X.A.units + 64 < cLine) : OpR X (compareOp .NotEq) (rNeLi X.K) := by
  intro pins s σ H x y v u Q I rx ry h
  obtain ⟨a, b, xs, ys, rfl, rfl, h1, h2, q⟩ := h
  exact op_neD hu pins s σ H _ _ v u Q I rx ry ⟨_, _, dp_ints h1, dp_ints h2, shaped_ints xs, shaped_ints ys, by rw [eqv_ints]; exact q⟩

/-! ### items, slices, repetition, comprehensions of ints -/
def itI (xs : List Int) (i : Int) : Int := (atI xs i).getD 0
theorem atI_int {xs : List Int} {i : Int} (h : -(xs.length : Int) ≤ i ∧ i < xs.length) : atI (xs.map V.int) i = some (.int (itI xs i)) := by
  unfold itI atI
  rw [List.length_map]
  have hk : ∃ j, ixN xs.length i = some j ∧ j < xs.length := by
    unfold ixN
    by_cases h0 : 0 ≤ i
    · refine ⟨i.toNat, ?_, by omega⟩
      rw [if_pos h0, if_pos h.2]
    · refine ⟨(i + xs.length).toNat, ?_, by omega⟩
      rw [if_neg h0, if_pos h.1]
  obtain ⟨j, e, hj⟩ := hk
  rw [e]
  show (xs.map V.int)[j]? = some (V.int ((xs[j]?).getD 0))
  rw [List.getElem?_map, List.getElem?_eq_getElem hj] <;> rfl
def cutI (xs : List Int) (lo hi : Option Int) : List Int := (xs.drop (HT.sIx xs.length 0 lo)).take (HT.sIx xs.length xs.length hi - HT.sIx xs.length 0 lo)
theorem cut_int {xs : List Int} {lo hi : Option Int} {H : Hp} {p : Addr} (h : H p = some (.lst (cutV (xs.map V.int) lo hi))) : H p = some (.lst ((cutI xs lo hi).map V.int)) := by
  rw [h]
  unfold cutV cutI
  rw [List.length_map, List.map_take, List.map_drop]
def rep (xs : List Int) (k : Int) : List Int := (List.replicate k.toNat xs).flatten
theorem rep_int {xs : List Int} {k : Int} {H : Hp} {p : Addr} (h : H p = some (.lst (List.replicate k.toNat (xs.map V.int)).flatten)) : H p = some (.lst ((rep xs k).map V.int)) := by
  rw [h]
  unfold rep
  rw [List.map_flatten, List.map_replicate]
theorem divW_lit {i j : Int} (h : 0 < j) (h2 : j.natAbs.log2 < 9000) : CDivW i j := ⟨h, h2⟩
theorem divW_small {i j : Int} (h : 0 < j) (h2 : j < 2 ^ 128) : CDivW i j := wide_div h (show j.natAbs < 2 ^ 128 by omega) (by decide) (by decide)
theorem comp_list {xs : List Int} {i : Nat} {x y : Int} {f : Int → Int} {H : Hp} {D : Addr} (hi : xs[i]? = some x) (h : H D = some (.lst (((xs.take i).map f).map V.int ++ [V.int y]))) (e : f x = y) : H D = some (.lst (((xs.take (i + 1)).map f).map V.int)) := by
  rw [h, ← e, List.take_succ, hi, List.map_append, List.map_append] <;> rfl
theorem comp_done {xs : List Int} {f : Int → Int} {H : Hp} {D : Addr} (h : H D = some (.lst (((xs.take (xs.map V.int).length).map f).map V.int))) : H D = some (.lst ((xs.map f).map V.int)) := by
  rw [List.length_map, List.take_length] at h
  exact h
theorem comp_range {i : Nat} {y : Int} {f : Nat → Int} {H : Hp} {D : Addr} (h : H D = some (.lst (((List.range i).map f).map V.int ++ [V.int y]))) (e : f i = y) : H D = some (.lst (((List.range (i + 1)).map f).map V.int)) := by
  rw [h, ← e, List.range_succ, List.map_append, List.map_append] <;> rfl
theorem iteBT {b : Bool} {A B : Prop} (h : b = true) (k : A) : if b = true then A else B := by rw [if_pos h]; exact k
theorem iteBF {b : Bool} {A B : Prop} (h : b = false) (k : B) : if b = true then A else B := by rw [if_neg (by rw [h]; decide)]; exact k
theorem take_succ_get {α : Type} {xs : List α} {i : Nat} {x : α} (hi : xs[i]? = some x) : xs.take (i + 1) = xs.take i ++ [x] := by rw [List.take_succ, hi] <;> rfl
end

/-! ### defs of the module, as callers see them -/
section
variable {P : Program} {w : World} {K : PySem.W.Frag} {mg : Str → Option Value} {base : Heap}
structure DefIn (K : PySem.W.Frag) (mg : Str → Option Value) (x : Str) (st : Stmt) (ps : List Str) : Prop where
  ex : ∃ (f : Addr) (fd : FuncData), Fun K x x st f fd ∧ mg x = some (.ref f) ∧ Binds K fd ps []
structure Cal (P : Program) (w : World) (K : PySem.W.Frag) (mg : Str → Option Value) (base : Heap) (k : Nat) (x : Str) (sp : Sp) : Prop where
  ex : ∃ (f : Addr) (fd : FuncData) (ps : List Str), FnOk P w K mg base CX0 k f fd ps sp ∧ mg x = some (.ref f) ∧ PySem.W.keepIn K (.ref f) = true ∧ Binds K fd ps []
theorem DefIn.ok {x : Str} {st : Stmt} {N ps : List Str} {k : Nat} {sp : Sp} (D : DefIn K mg x st ps) (S : FnScope N ps (defScope st)) (len : ∀ vs H Q E, sp vs H Q E → vs.length = ps.length)
    (hbody : ∀ (f : Addr) (cdv : Value) (A : Around) (outer : List Env) (s : Shared) (H : Hp) (vs : List V) (Q : VK) (E : XK), Room k (A.deeper (envOfC x (defScope st) s.heap.objs.size f cdv)) → sp vs H Q E →
      ∃ t, PSs (cxOf CX0 P w K mg base N x (defScope st) f cdv A outer s H E).nox (defBody st) t ∧ t { nx := fun _ H' => Q .non H', rt := Q } (start N vs) H) : Cal P w K mg base (k + 1) x sp := by
  obtain ⟨f, fd, F, hm, b⟩ := D.ex
  exact ⟨f, fd, ps, F.ok S len (fun cdv A outer s H vs Q E hr h => hbody f cdv A outer s H vs Q E hr h), hm, F.kp, b⟩
end
section
variable {X : Cx} {k j : Nat} {x : Str} {sp : Sp} {p pos : Pos} {e : Expr} {es : List Expr} {t : TA}
theorem vx_call (c : Cal X.prog X.w X.K X.mg X.base k x sp) (hr : Room j X.A) (hk : k ≤ j) (hg : Gl X x) (ha : PA X (e :: es) t)
    (hdb : (x == ("__debug__" : Str)) = false := by decide) (he : starEach (e :: es) X.env = (false, eval e X.env) :: starEach es X.env := by rfl) (hpl : (backTo pos (starEach es X.env)).any (·.1) = false := by rfl) :
    PE X (.Call (.Name x p) (e :: es) [] pos) (tCall sp [] E0 t) := by
  obtain ⟨f, fd, ps, F, hm, kp, b⟩ := c.ex
  exact pe_call F (hr.mono hk) hg hm kp b .nil pass0 ha hdb he hpl
end
end Vx

namespace Vx
open PySem PySem.Spec PyProof.Rows L2
section
variable {σ : L2.St} {H : Hp} {ta tb : TE} {x y z : V} {t : TT}
theorem vv_and {a b : Bool} (h1 : Val ta σ H (.bl a)) (h2 : Val tb σ H (.bl b)) : Val (tAndV ta tb) σ H (.bl (a && b)) := fun Q q => h1 _ ⟨a, rfl, by
  cases a with
  | true => exact iteT (h2 Q q)
  | false => exact iteF q⟩
theorem vv_or {a b : Bool} (h1 : Val ta σ H (.bl a)) (h2 : Val tb σ H (.bl b)) : Val (tOrV ta tb) σ H (.bl (a || b)) := fun Q q => h1 _ ⟨a, rfl, by
  cases a with
  | true => exact iteT q
  | false => exact iteF (h2 Q q)⟩
theorem vv_not {a : Bool} (h1 : Val ta σ H (.bl a)) : Val (tNotV ta) σ H (.bl (!a)) := fun Q q => h1 _ ⟨a, rfl, q⟩
theorem vv_un {r : V → Hp → VK → Prop} (ha : Val ta σ H x) (hr : ∀ Q : VK, Q z H → r x H Q) : Val (tUn r ta) σ H z := fun Q q => ha _ (hr Q q)
theorem vv_cmp {p : Int → Int → Bool} (ha : Val ta σ H x) (hb : Val tb σ H y) (hr : ∀ Q : VK, Q z H → ∃ i j, x = .int i ∧ y = .int j ∧ Q (.bl (p i j)) H) : Val (tCmp p ta tb) σ H z := fun Q q => ha _ (hb _ (hr Q q))
theorem vv_call1 {r : List V → Hp → VK → Prop} (ha : Val ta σ H x) (hr : ∀ Q : VK, Q z H → r [x] H Q) : Val (tCB r (tCons ta tNil)) σ H z := fun Q q => ha _ (hr Q q)
theorem vt_cmp {b : Bool} (h : Val ta σ H (.bl b)) : Ans (tB ta) σ H b := fun Q q => h _ ⟨b, rfl, q⟩
theorem vt_val {b : Bool} (h : Val ta σ H (.bl b)) : Ans (tB ta) σ H b := fun Q q => h _ ⟨b, rfl, q⟩
theorem vt_int {i : Int} {K : PySem.W.Frag} (h : Val ta σ H (.int i)) : Ans (fun σ H Q => ta σ H fun x H' => ∃ k, TruV K x H' k ∧ Q k H') σ H (i != 0) := fun Q q => h _ ⟨_, rfl, q⟩
theorem vv_if {p : Prop} [Decidable p] {a b : Int} (ht : Ans t σ H (decide p)) (hx : Val ta σ H (.int a)) (hy : Val tb σ H (.int b)) : Val (tIf t ta tb) σ H (.int (if p then a else b)) := fun Q q => ht _ (by
  by_cases h : p
  · rw [if_pos h] at q; exact iteDT h (hx Q q)
  · rw [if_neg h] at q; exact iteDF h (hy Q q))
theorem vv_ifb {c : Bool} {a b : Int} (ht : Ans t σ H c) (hx : Val ta σ H (.int a)) (hy : Val tb σ H (.int b)) : Val (tIf t ta tb) σ H (.int (if c = true then a else b)) := fun Q q => ht _ (by
  cases c with
  | true => exact iteT (hx Q q)
  | false => exact iteF (hy Q q))
end
end Vx

namespace Vx
open PySem PySem.Spec PyProof.Rows L2
def rLenLi (K : PySem.W.Frag) : List V → Hp → VK → Prop := fun xs H Q => ∃ (p : Addr) (ns : List Int), xs = [.ref p] ∧ SqL K H p (ns.map V.int) ∧ Q (.int (ns.length : Int)) H
theorem call_lenLi {X : Cx} : CallR X (.builtin "len") (rLenLi X.K) := by
  intro pins s σ H xs us Q I r h
  obtain ⟨p, ns, rfl, hs, q⟩ := h
  exact call_len_seq pins s σ H _ us Q I r ⟨p, _, rfl, Or.inl hs, by rw [List.length_map]; exact q⟩
end Vx

namespace Vx
open PySem PySem.Spec PyProof.Rows L2
section
variable {X : Cx} {K : PySem.W.Frag}
theorem ix_listK (hK : X.K = K := by rfl) : IxR X (rIxL K) := hK ▸ ix_list
theorem sl_listK (hK : X.K = K := by rfl) : SlR X (rSlL K) := hK ▸ sl_list
theorem call_lenLiK (hK : X.K = K := by rfl) : CallR X (.builtin "len") (rLenLi K) := hK ▸ call_lenLi
theorem op_eqLiK (hu : X.A.units + 64 < cLine) (hK : X.K = K := by rfl) : OpR X (compareOp .Eq) (rEqLi K) := hK ▸ op_eqLi hu
theorem op_neLiK (hu : X.A.units + 64 < cLine) (hK : X.K = K := by rfl) : OpR X (compareOp .NotEq) (rNeLi K) := hK ▸ op_neLi hu
theorem pi_listK {tg l : Expr} {tl : TE} (hl : PE X l tl) (hK : X.K = K := by rfl) : PI X tg l (iList K tl) := hK ▸ pi_list hl
theorem cr_sumK (hc : X.calm = true) (hK : X.K = K := by rfl) : CallR X (.builtin "sum") (rSum K) := hK ▸ cr_sum hc
theorem cr_maxK (hc : X.calm = true) (hK : X.K = K := by rfl) : CallR X (.builtin "max") (rMax K) := hK ▸ cr_max hc
theorem cr_minK (hc : X.calm = true) (hK : X.K = K := by rfl) : CallR X (.builtin "min") (rMin K) := hK ▸ cr_min hc
end
end Vx

namespace Vx
open PySem PySem.Spec PyProof.Rows L2
theorem tyes_go {σ : L2.St} {H : Hp} {f g : Hp → Prop} (h : f H) : tYes σ H (fun b H3 => if b = true then f H3 else g H3) := by
  show if true = true then f H else g H
  exact iteT h
end Vx

/-! # second part: data of any depth, the stable heap G, the owned addresses O -/
namespace Vx
open PySem PySem.Spec PyProof.Rows L2
mutual
inductive Rp (H : Hp) : V → PyData → Prop
  | non : Rp H .non .none
  | bl (b : Bool) : Rp H (.bl b) (.bool b)
  | int (i : Int) : Rp H (.int i) (.int i)
  | str (x : Str) : Rp H (.str x) (.str x)
  | lst {a : Addr} {xs : List V} {ds : List PyData} : H a = some (.lst xs) → RpAll H xs ds → Rp H (.ref a) (.list ds)
  | tup {a : Addr} {xs : List V} {ds : List PyData} : H a = some (.tup xs) → RpAll H xs ds → Rp H (.ref a) (.tuple ds)
inductive RpAll (H : Hp) : List V → List PyData → Prop
  | nil : RpAll H [] []
  | cons {v : V} {vs : List V} {d : PyData} {ds : List PyData} : Rp H v d → RpAll H vs ds → RpAll H (v :: vs) (d :: ds)
end
mutual
theorem Rp.mono {H H' : Hp} (e : Same H H') : ∀ {v : V} {d : PyData}, Rp H v d → Rp H' v d
  | _, _, .non => .non
  | _, _, .bl b => .bl b
  | _, _, .int i => .int i
  | _, _, .str x => .str x
  | _, _, .lst h r => .lst (e _ _ h) (RpAll.mono e r)
  | _, _, .tup h r => .tup (e _ _ h) (RpAll.mono e r)
theorem RpAll.mono {H H' : Hp} (e : Same H H') : ∀ {vs : List V} {ds : List PyData}, RpAll H vs ds → RpAll H' vs ds
  | _, _, .nil => .nil
  | _, _, .cons a b => .cons (Rp.mono e a) (RpAll.mono e b)
end
mutual
theorem Rp.dp {K : PySem.W.Frag} {H : Hp} : ∀ {v : V} {d : PyData}, Rp H v d → Dp K H v d
  | _, _, .non => .non
  | _, _, .bl b => .bl b
  | _, _, .int i => .int i
  | _, _, .str x => .str x
  | _, _, .lst h r => .lst (SqL.of h) (RpAll.dp r)
  | _, _, .tup h r => .tup (SqT.of h) (RpAll.dp r)
theorem RpAll.dp {K : PySem.W.Frag} {H : Hp} : ∀ {vs : List V} {ds : List PyData}, RpAll H vs ds → DpAll K H vs ds
  | _, _, .nil => .nil
  | _, _, .cons a b => .cons (Rp.dp a) (RpAll.dp b)
end
theorem RpAll.append {H : Hp} : ∀ {xs ys : List V} {ds es : List PyData}, RpAll H xs ds → RpAll H ys es → RpAll H (xs ++ ys) (ds ++ es)
  | _, _, _, _, .nil, s => s
  | _, _, _, _, .cons r t, s => .cons r (RpAll.append t s)
theorem RpAll.ints {H : Hp} : ∀ xs : List Int, RpAll H (xs.map V.int) (xs.map PyData.int)
  | [] => .nil
  | x :: xs => .cons (.int x) (RpAll.ints xs)
theorem RpAll.bls {H : Hp} : ∀ xs : List Bool, RpAll H (xs.map V.bl) (xs.map PyData.bool)
  | [] => .nil
  | x :: xs => .cons (.bl x) (RpAll.bls xs)
theorem RpAll.one {H : Hp} {v : V} {d : PyData} (h : Rp H v d) : RpAll H [v] [d] := .cons h .nil
theorem RpAll.len {H : Hp} : ∀ {vs : List V} {ds : List PyData}, RpAll H vs ds → vs.length = ds.length
  | _, _, .nil => rfl
  | _, _, .cons _ t => by rw [List.length_cons, List.length_cons, RpAll.len t]
theorem RpAll.at {H : Hp} : ∀ {vs : List V} {ds : List PyData} {i : Nat} {v : V}, RpAll H vs ds → vs[i]? = some v → ∃ d, ds[i]? = some d ∧ Rp H v d
  | _, _, _, _, .nil, h => by simp at h
  | _, _, 0, _, .cons r _, h => by
    simp at h
    subst h
    exact ⟨_, rfl, r⟩
  | _, _, i + 1, _, .cons _ t, h => by
    obtain ⟨d, h1, h2⟩ := RpAll.at (i := i) t (by simpa using h)
    exact ⟨d, by simpa using h1, h2⟩
theorem RpAll.at' {H : Hp} : ∀ {vs : List V} {ds : List PyData} {i : Nat} {d : PyData}, RpAll H vs ds → ds[i]? = some d → ∃ v, vs[i]? = some v ∧ Rp H v d
  | _, _, _, _, .nil, h => by simp at h
  | _, _, 0, _, .cons r _, h => by
    simp at h
    subst h
    exact ⟨_, rfl, r⟩
  | _, _, i + 1, _, .cons _ t, h => by
    obtain ⟨v, h1, h2⟩ := RpAll.at' (i := i) t (by simpa using h)
    exact ⟨v, by simpa using h1, h2⟩
theorem RpAll.take {H : Hp} : ∀ (n : Nat) {vs : List V} {ds : List PyData}, RpAll H vs ds → RpAll H (vs.take n) (ds.take n)
  | 0, _, _, _ => by simpa using RpAll.nil
  | n + 1, _, _, .nil => by simpa using RpAll.nil
  | n + 1, _, _, .cons r t => .cons r (RpAll.take n t)
theorem RpAll.drop {H : Hp} : ∀ (n : Nat) {vs : List V} {ds : List PyData}, RpAll H vs ds → RpAll H (vs.drop n) (ds.drop n)
  | 0, _, _, r => r
  | n + 1, _, _, .nil => by simpa using RpAll.nil
  | n + 1, _, _, .cons r t => RpAll.drop n t
theorem RpAll.set {H : Hp} {v : V} {d : PyData} (h : Rp H v d) : ∀ (n : Nat) {vs : List V} {ds : List PyData}, RpAll H vs ds → RpAll H (vs.set n v) (ds.set n d)
  | _, _, _, .nil => .nil
  | 0, _, _, .cons _ t => .cons h t
  | n + 1, _, _, .cons r t => .cons r (RpAll.set h n t)
theorem RpAll.rep {H : Hp} {vs : List V} {ds : List PyData} (h : RpAll H vs ds) : ∀ n : Nat, RpAll H (List.replicate n vs).flatten (List.replicate n ds).flatten
  | 0 => by simpa using RpAll.nil
  | n + 1 => by
    rw [List.replicate_succ, List.flatten_cons, List.replicate_succ, List.flatten_cons]
    exact RpAll.append h (RpAll.rep h n)
theorem RpAll.get {α : Type} {f : α → PyData} {H : Hp} {vs : List V} {xs : List α} {i : Nat} {v : V} (r : RpAll H vs (xs.map f)) (h : vs[i]? = some v) : ∃ x, xs[i]? = some x ∧ Rp H v (f x) := by
  obtain ⟨d, h1, h2⟩ := RpAll.at r h
  rw [List.getElem?_map] at h1
  cases e : xs[i]? with
  | none => rw [e] at h1; cases h1
  | some x =>
    rw [e] at h1
    have : f x = d := Option.some.inj h1
    exact ⟨x, rfl, this ▸ h2⟩
/-- the item at an index, data -/
theorem RpAll.ix {α : Type} {f : α → PyData} {H : Hp} {vs : List V} {xs : List α} {k : Int} (r : RpAll H vs (xs.map f)) (h : -(xs.length : Int) ≤ k ∧ k < xs.length) : ∃ v x, atI vs k = some v ∧ atI xs k = some x ∧ Rp H v (f x) := by
  have hl : vs.length = xs.length := by rw [r.len, List.length_map]
  have hk : ∃ j, ixN xs.length k = some j ∧ j < xs.length := by
    unfold ixN
    by_cases h0 : 0 ≤ k
    · refine ⟨k.toNat, ?_, by omega⟩
      rw [if_pos h0, if_pos h.2]
    · refine ⟨(k + xs.length).toNat, ?_, by omega⟩
      rw [if_neg h0, if_pos h.1]
  obtain ⟨j, e, hj⟩ := hk
  have hx := List.getElem?_eq_getElem hj
  obtain ⟨v, h1, h2⟩ := RpAll.at' (i := j) (d := f xs[j]) r (by rw [List.getElem?_map, hx] <;> rfl)
  refine ⟨v, xs[j], ?_, ?_, h2⟩
  · unfold atI
    rw [hl, e]
    exact h1
  · unfold atI
    rw [e]
    exact hx

/-! ### types -/
def encL {α : Type} (f : α → PyData) (xs : List α) : PyData := .list (xs.map f)
def encT2 {α β : Type} (f : α → PyData) (g : β → PyData) (p : α × β) : PyData := .tuple [f p.1, g p.2]
def encT3 {α β γ : Type} (f : α → PyData) (g : β → PyData) (h : γ → PyData) (p : α × β × γ) : PyData := .tuple [f p.1, g p.2.1, h p.2.2]
def encT4 {α β γ δ : Type} (f : α → PyData) (g : β → PyData) (h : γ → PyData) (i : δ → PyData) (p : α × β × γ × δ) : PyData := .tuple [f p.1, g p.2.1, h p.2.2.1, i p.2.2.2]
structure EncOk {α : Type} [DecidableEq α] (n : Nat) (f : α → PyData) : Prop where
  lay : ∀ x, PyData.canLay0 (f x) = true
  dep : ∀ x, PyData.depth (f x) ≤ n
  eqv : ∀ x y, PyData.eqv (f x) (f y) = decide (x = y)
theorem encOk_int : EncOk 0 PyData.int := ⟨fun _ => by simp [PyData.canLay0], fun _ => by simp [PyData.depth], fun x y => by simp [PyData.eqv]; by_cases h : x = y <;> simp [h]⟩
theorem encOk_bool : EncOk 0 PyData.bool := ⟨fun _ => by simp [PyData.canLay0], fun _ => by simp [PyData.depth], fun x y => by cases x <;> cases y <;> simp [PyData.eqv]⟩
section
variable {α β γ δ : Type} [DecidableEq α] [DecidableEq β] [DecidableEq γ] [DecidableEq δ] {n m l o : Nat} {f : α → PyData} {g : β → PyData} {h : γ → PyData} {i : δ → PyData}
theorem lay_map (ok : EncOk n f) : ∀ xs : List α, PyData.canLayAll0 (xs.map f) = true
  | [] => by simp [PyData.canLayAll0]
  | x :: xs => by simp [PyData.canLayAll0, ok.lay x, lay_map ok xs]
theorem dep_map (ok : EncOk n f) : ∀ xs : List α, PyData.depthAll (xs.map f) ≤ n
  | [] => by simp [PyData.depthAll]
  | x :: xs => by
    have h1 := ok.dep x
    have h2 := dep_map ok xs
    simp only [List.map_cons, PyData.depthAll]
    omega
theorem eqv_map (ok : EncOk n f) : ∀ xs ys : List α, PyData.eqvAll (xs.map f) (ys.map f) = decide (xs = ys)
  | [], [] => by simp [PyData.eqvAll]
  | [], y :: ys => by simp [PyData.eqvAll]
  | x :: xs, [] => by simp [PyData.eqvAll]
  | x :: xs, y :: ys => by
    have ih := eqv_map ok xs ys
    simp only [List.map_cons, PyData.eqvAll, ok.eqv, ih]
    by_cases h : x = y <;> by_cases h2 : xs = ys <;> simp [h, h2]
theorem encOk_L (ok : EncOk n f) : EncOk (n + 1) (encL f) := ⟨fun xs => by simp [encL, PyData.canLay0, lay_map ok], fun xs => by
  have := dep_map ok xs
  simp only [encL, PyData.depth]
  omega, fun xs ys => by simp only [encL, PyData.eqv]; exact eqv_map ok xs ys⟩
theorem encOk_T2 (ok : EncOk n f) (ok2 : EncOk m g) : EncOk (max n m + 1) (encT2 f g) := ⟨fun x => by simp [encT2, PyData.canLay0, PyData.canLayAll0, ok.lay, ok2.lay], fun x => by
  have h1 := ok.dep x.1
  have h2 := ok2.dep x.2
  simp only [encT2, PyData.depth, PyData.depthAll]
  omega, fun x y => by
  obtain ⟨a, b⟩ := x
  obtain ⟨c, d⟩ := y
  simp only [encT2, PyData.eqv, PyData.eqvAll, ok.eqv, ok2.eqv, Prod.mk.injEq]
  by_cases h1 : a = c <;> by_cases h2 : b = d <;> simp [h1, h2]⟩
theorem encOk_T3 (ok : EncOk n f) (ok2 : EncOk m g) (ok3 : EncOk l h) : EncOk (max n (max m l) + 1) (encT3 f g h) := ⟨fun x => by simp [encT3, PyData.canLay0, PyData.canLayAll0, ok.lay, ok2.lay, ok3.lay], fun x => by
  have h1 := ok.dep x.1
  have h2 := ok2.dep x.2.1
  have h3 := ok3.dep x.2.2
  simp only [encT3, PyData.depth, PyData.depthAll]
  omega, fun x y => by
  obtain ⟨a, b, e⟩ := x
  obtain ⟨c, d, e'⟩ := y
  simp only [encT3, PyData.eqv, PyData.eqvAll, ok.eqv, ok2.eqv, ok3.eqv, Prod.mk.injEq]
  by_cases h1 : a = c <;> by_cases h2 : b = d <;> by_cases h3 : e = e' <;> simp [h1, h2, h3]⟩
theorem encOk_T4 (ok : EncOk n f) (ok2 : EncOk m g) (ok3 : EncOk l h) (ok4 : EncOk o i) : EncOk (max n (max m (max l o)) + 1) (encT4 f g h i) := ⟨fun x => by simp [encT4, PyData.canLay0, PyData.canLayAll0, ok.lay, ok2.lay, ok3.lay, ok4.lay], fun x => by
  have h1 := ok.dep x.1
  have h2 := ok2.dep x.2.1
  have h3 := ok3.dep x.2.2.1
  have h4 := ok4.dep x.2.2.2
  simp only [encT4, PyData.depth, PyData.depthAll]
  omega, fun x y => by
  obtain ⟨a, b, e, u⟩ := x
  obtain ⟨c, d, e', u'⟩ := y
  simp only [encT4, PyData.eqv, PyData.eqvAll, ok.eqv, ok2.eqv, ok3.eqv, ok4.eqv, Prod.mk.injEq]
  by_cases h1 : a = c <;> by_cases h2 : b = d <;> by_cases h3 : e = e' <;> by_cases h4 : u = u' <;> simp [h1, h2, h3, h4]⟩
end
section
variable {X : Cx} {α : Type} [DecidableEq α] {n : Nat} {f : α → PyData}
def rEqT (f : α → PyData) : R2 := fun x y H Q => ∃ (a b : α), Rp H x (f a) ∧ Rp H y (f b) ∧ Q (.bl (decide (a = b))) H
def rNeT (f : α → PyData) : R2 := fun x y H Q => ∃ (a b : α), Rp H x (f a) ∧ Rp H y (f b) ∧ Q (.bl (!decide (a = b))) H
theorem shaped_of (ok : EncOk n f) (hn : n ≤ 64) (a : α) : SeqAt.shaped (f a) = true := by
  unfold SeqAt.shaped
  have h := ok.dep a
  rw [ok.lay]
  simp
  omega
theorem op_eqT (ok : EncOk n f) (hu : X.A.units + 64 < cLine) (hn : n ≤ 64 := by decide) : OpR X (compareOp .Eq) (rEqT f) := by
  intro pins s σ H x y v u Q I rx ry h
  obtain ⟨a, b, h1, h2, q⟩ := h
  exact op_eqD hu pins s σ H _ _ v u Q I rx ry ⟨_, _, h1.dp, h2.dp, shaped_of ok hn a, shaped_of ok hn b, by rw [ok.eqv]; exact q⟩
theorem op_neT (ok : EncOk n f) (hu : X.A.units + 64 < cLine) (hn : n ≤ 64 := by decide) : OpR X (compareOp .NotEq) (rNeT f) := by
  intro pins s σ H x y v u Q I rx ry h
  obtain ⟨a, b, h1, h2, q⟩ := h
  exact op_neD hu pins s σ H _ _ v u Q I rx ry ⟨_, _, h1.dp, h2.dp, shaped_of ok hn a, shaped_of ok hn b, by rw [ok.eqv]; exact q⟩
end
section
variable {H : Hp} {v : V} {α β γ δ : Type} {f : α → PyData} {g : β → PyData} {h : γ → PyData} {i : δ → PyData}
theorem rp_int {x : Int} (r : Rp H v (.int x)) : v = .int x := by cases r; rfl
theorem rp_bool {x : Bool} (r : Rp H v (.bool x)) : v = .bl x := by cases r; rfl
theorem rp_str {x : Str} (r : Rp H v (.str x)) : v = .str x := by cases r; rfl
theorem rp_list {xs : List α} (r : Rp H v (encL f xs)) : ∃ a vs, v = .ref a ∧ H a = some (.lst vs) ∧ RpAll H vs (xs.map f) := by
  unfold encL at r
  cases r with
  | lst h1 h2 => exact ⟨_, _, rfl, h1, h2⟩
theorem rpAll_ints : ∀ {vs : List V} {xs : List Int}, RpAll H vs (xs.map PyData.int) → vs = xs.map V.int
  | _, [], .nil => rfl
  | _, x :: xs, .cons r t => by rw [rp_int r, rpAll_ints t] <;> rfl
theorem rp_ints {xs : List Int} (r : Rp H v (encL PyData.int xs)) : ∃ a, v = .ref a ∧ H a = some (.lst (xs.map V.int)) := by
  obtain ⟨a, vs, e, h1, h2⟩ := rp_list r
  rw [rpAll_ints h2] at h1
  exact ⟨a, e, h1⟩
theorem rp_tup2 {x : α × β} (r : Rp H v (encT2 f g x)) : ∃ a v1 v2, v = .ref a ∧ H a = some (.tup [v1, v2]) ∧ Rp H v1 (f x.1) ∧ Rp H v2 (g x.2) := by
  unfold encT2 at r
  cases r with
  | tup h1 h2 =>
    cases h2 with
    | cons a b =>
      cases b with
      | cons b c =>
        cases c
        exact ⟨_, _, _, rfl, h1, a, b⟩
theorem rp_tup3 {x : α × β × γ} (r : Rp H v (encT3 f g h x)) : ∃ a v1 v2 v3, v = .ref a ∧ H a = some (.tup [v1, v2, v3]) ∧ Rp H v1 (f x.1) ∧ Rp H v2 (g x.2.1) ∧ Rp H v3 (h x.2.2) := by
  unfold encT3 at r
  cases r with
  | tup h1 h2 =>
    cases h2 with
    | cons a b =>
      cases b with
      | cons b c =>
        cases c with
        | cons c d =>
          cases d
          exact ⟨_, _, _, _, rfl, h1, a, b, c⟩
theorem rp_mk_list {a : Addr} {vs : List V} {xs : List α} (h1 : H a = some (.lst vs)) (h2 : RpAll H vs (xs.map f)) : Rp H (.ref a) (encL f xs) := .lst h1 h2
theorem rp_mk_ints {a : Addr} {xs : List Int} (h1 : H a = some (.lst (xs.map V.int))) : Rp H (.ref a) (encL PyData.int xs) := .lst h1 (RpAll.ints xs)
theorem rp_mk2 {a : Addr} {v1 v2 : V} {x : α} {y : β} (h1 : H a = some (.tup [v1, v2])) (r1 : Rp H v1 (f x)) (r2 : Rp H v2 (g y)) : Rp H (.ref a) (encT2 f g (x, y)) := .tup h1 (.cons r1 (.cons r2 .nil))
theorem rp_mk3 {a : Addr} {v1 v2 v3 : V} {x : α} {y : β} {z : γ} (h1 : H a = some (.tup [v1, v2, v3])) (r1 : Rp H v1 (f x)) (r2 : Rp H v2 (g y)) (r3 : Rp H v3 (h z)) : Rp H (.ref a) (encT3 f g h (x, y, z)) := .tup h1 (.cons r1 (.cons r2 (.cons r3 .nil)))
end

/-! ### the two heaps -/
def SameXs (L : List Addr) (H H' : Hp) : Prop := ∀ b o, H b = some o → b ∉ L → H' b = some o
theorem SameXs.of {H H' : Hp} {m : Addr} (x : SameX m H H') : SameXs [m] H H' := fun b o e n => x b o e (fun z => n (by rw [z]; exact List.mem_cons_self))
theorem ni1 {b m : Addr} (h : b ≠ m) : b ∉ [m] := by simpa using h
theorem ni2 {b m n : Addr} (h : b ≠ m) (h2 : b ≠ n) : b ∉ [m, n] := by simp [h, h2]
theorem ni3 {b m n o : Addr} (h : b ≠ m) (h2 : b ≠ n) (h3 : b ≠ o) : b ∉ [m, n, o] := by simp [h, h2, h3]
theorem ni4 {b m n o p : Addr} (h : b ≠ m) (h2 : b ≠ n) (h3 : b ≠ o) (h4 : b ≠ p) : b ∉ [m, n, o, p] := by simp [h, h2, h3, h4]
def hideL (L : List Addr) (H : Hp) : Hp := fun b => if b ∈ L then none else H b
theorem hideL_same (L : List Addr) (H : Hp) : Same (hideL L H) H := fun b o e => by
  unfold hideL at e
  split at e
  · cases e
  · exact e
theorem hideL_in {L : List Addr} {H : Hp} {b : Addr} (h : b ∈ L) : hideL L H b = none := if_pos h
theorem hideL_out {L : List Addr} {H : Hp} {b : Addr} (h : b ∉ L) : hideL L H b = H b := if_neg h
/-- M: owned from outside; H0, G0: at the entry; G: what stays as it is; O: what may change -/
structure Sep (M : List Addr) (H0 G0 G H : Hp) (O : List Addr) : Prop where
  base : SameXs M H0 H
  pm : ∀ a ∈ M, H a ≠ none
  sG : Same G H
  g0 : Same G0 G
  gn : ∀ b, H0 b ≠ none → G0 b = none → G b = none
  ow : ∀ a ∈ O, G a = none ∧ H a ≠ none ∧ (a ∈ M ∨ H0 a = none)
theorem all_nil {P : Addr → Prop} : ∀ x ∈ ([] : List Addr), P x := fun x h => by cases h
theorem all_cons {P : Addr → Prop} {a : Addr} {l : List Addr} (h : P a) (t : ∀ x ∈ l, P x) : ∀ x ∈ a :: l, P x := fun x hx => by
  cases hx with
  | head => exact h
  | tail _ hx => exact t x hx
theorem some_ne {H : Hp} {a : Addr} {o : HO} (h : H a = some o) : H a ≠ none := by
  rw [h]
  exact fun z => nomatch z
theorem same_ne {H H' : Hp} {a : Addr} (e : Same H H') (h : H a ≠ none) : H' a ≠ none := by
  cases q : H a with
  | none => exact absurd q h
  | some o => exact some_ne (e a o q)
section
variable {M : List Addr} {H0 G0 G H H' : Hp} {O : List Addr} {p m : Addr} {o : HO}
theorem Sep.start (M : List Addr) (H : Hp) (hM : ∀ a ∈ M, H a ≠ none) : Sep M H (hideL M H) (hideL M H) H M :=
  ⟨fun _ _ e _ => e, hM, hideL_same M H, Same.refl _, fun _ _ e => e, fun a ha => ⟨hideL_in ha, hM a ha, .inl ha⟩⟩
theorem Sep.startG {G H : Hp} (e : Same G H) : Sep [] H G G H [] := ⟨fun _ _ e _ => e, all_nil, e, Same.refl _, fun _ _ e => e, fun a ha => by cases ha⟩
theorem Sep.start0 (H : Hp) : Sep [] H H H H [] := Sep.startG (Same.refl H)
theorem Sep.b0 (S : Sep [] H0 G0 G H O) : Same H0 H := fun b o e => S.base b o e List.not_mem_nil
theorem Sep.free (S : Sep M H0 G0 G H O) {q : Addr} (n : H q = none) : H0 q = none := by
  cases e : H0 q with
  | none => rfl
  | some o =>
    by_cases h : q ∈ M
    · exact absurd n (S.pm q h)
    · rw [S.base q o e h] at n
      cases n
theorem Sep.same (S : Sep M H0 G0 G H O) (e : Same H H') : Sep M H0 G0 G H' O :=
  ⟨fun b o h n => e b o (S.base b o h n), fun a ha => same_ne e (S.pm a ha), S.sG.trans e, S.g0, S.gn, fun a ha => ⟨(S.ow a ha).1, same_ne e (S.ow a ha).2.1, (S.ow a ha).2.2⟩⟩
theorem Sep.gfree (S : Sep M H0 G0 G H O) {q : Addr} (n : H q = none) : G q = none := by
  cases e : G q with
  | none => rfl
  | some o => rw [S.sG q o e] at n; cases n
theorem Sep.new (S : Sep M H0 G0 G H O) (n : H p = none) (e : Same H H') (h : H' p = some o) (hm : H0 p = none) : Sep M H0 G0 G H' (p :: O) := by
  have S1 := S.same e
  refine ⟨S1.base, S1.pm, S1.sG, S1.g0, S1.gn, fun a ha => ?_⟩
  cases ha with
  | head => exact ⟨S.gfree n, some_ne h, .inr hm⟩
  | tail _ ha => exact S1.ow a ha
theorem Sep.grow (S : Sep M H0 G0 G H O) (n : H p = none) (e : Same H H') (h : H' p = some o) (hm : H0 p = none) : ∃ G', Same G G' ∧ G' p = some o ∧ Sep M H0 G0 G' H' O := by
  have S1 := S.same e
  have ng := S.gfree n
  refine ⟨upd G p o, fun b u q => by rw [upd_ne (ne_of_none q ng)]; exact q, upd_same, S1.base, S1.pm, fun b u q => ?_, fun b u q => ?_, fun b hb gb => ?_, fun a ha => ?_⟩
  · by_cases z : b = p
    · subst z
      rw [upd_same] at q
      exact q ▸ h
    · rw [upd_ne z] at q
      exact S1.sG b u q
  · have := S.g0 b u q
    rw [upd_ne (ne_of_none this ng)]
    exact this
  · by_cases z : b = p
    · subst z
      exact absurd hm hb
    · rw [upd_ne z]
      exact S.gn b hb gb
  · have hne : a ≠ p := fun z => (S.ow a ha).2.1 (by rw [z]; exact n)
    rw [upd_ne hne]
    exact S1.ow a ha
theorem Sep.mut (S : Sep M H0 G0 G H O) {L : List Addr} (x : SameXs L H H') (hL : ∀ a ∈ L, a ∈ O) (hs : ∀ a ∈ L, H' a ≠ none) : Sep M H0 G0 G H' O := by
  have keep : ∀ a, H a ≠ none → H' a ≠ none := fun a h => by
    by_cases hb : a ∈ L
    · exact hs a hb
    · cases q : H a with
      | none => exact absurd q h
      | some o => exact some_ne (x a o q hb)
  refine ⟨fun b o e n => ?_, fun a ha => keep a (S.pm a ha), fun b o e => ?_, S.g0, S.gn, fun a ha => ⟨(S.ow a ha).1, keep a (S.ow a ha).2.1, (S.ow a ha).2.2⟩⟩
  · refine x b o (S.base b o e n) fun hb => ?_
    rcases (S.ow b (hL b hb)).2.2 with z | z
    · exact n z
    · rw [e] at z; cases z
  · refine x b o (S.sG b o e) fun hb => ?_
    have := (S.ow b (hL b hb)).1
    rw [e] at this
    cases this
theorem Sep.mut1 (S : Sep M H0 G0 G H O) (x : SameX m H H') (hm : m ∈ O) (h : H' m = some o) : Sep M H0 G0 G H' O :=
  S.mut (SameXs.of x) (all_cons hm all_nil) (all_cons (some_ne h) all_nil)
theorem Sep.sub (S : Sep M H0 G0 G H O) {O' : List Addr} (h : ∀ a ∈ O', a ∈ O) : Sep M H0 G0 G H O' := ⟨S.base, S.pm, S.sG, S.g0, S.gn, fun a ha => S.ow a (h a ha)⟩
/-- what was owned and is to stay as it is from now on -/
theorem Sep.freeze (S : Sep M H0 G0 G H O) {O' : List Addr} (hp : p ∈ O) (h : H p = some o) (hm : H0 p = none) (hO : ∀ a ∈ O', a ∈ O ∧ a ≠ p) : ∃ G', Same G G' ∧ G' p = some o ∧ Sep M H0 G0 G' H O' := by
  have ng := (S.ow p hp).1
  refine ⟨upd G p o, fun b u q => by rw [upd_ne (ne_of_none q ng)]; exact q, upd_same, S.base, S.pm, fun b u q => ?_, fun b u q => ?_, fun b hb gb => ?_, fun a ha => ?_⟩
  · by_cases z : b = p
    · subst z
      rw [upd_same] at q
      exact q ▸ h
    · rw [upd_ne z] at q
      exact S.sG b u q
  · have := S.g0 b u q
    rw [upd_ne (ne_of_none this ng)]
    exact this
  · by_cases z : b = p
    · subst z
      exact absurd hm hb
    · rw [upd_ne z]
      exact S.gn b hb gb
  · rw [upd_ne (hO a ha).2]
    exact S.ow a (hO a ha).1
/-- a callee that hands on data in a stable heap of its own -/
theorem Sep.step (S : Sep M H0 G0 G H O) {G' : Hp} (e : Same H H') (eG : Same G G') (sG : Same G' H') (hn : ∀ b, H b ≠ none → G b = none → G' b = none) : Sep M H0 G0 G' H' O := by
  have S1 := S.same e
  refine ⟨S1.base, S1.pm, sG, S.g0.trans eG, fun b hb gb => ?_, fun a ha => ⟨hn a (S.ow a ha).2.1 (S.ow a ha).1, (S1.ow a ha).2⟩⟩
  refine hn b (fun z => ?_) (S.gn b hb gb)
  exact hb (S.free z)
theorem Sep.hid (S : Sep M H0 G0 G H O) {L : List Addr} (h : ∀ a ∈ L, a ∈ O) : Same G (hideL L H) := fun b o e => by
  rw [hideL_out fun z => by
    have := (S.ow b (h b z)).1
    rw [e] at this
    cases this]
  exact S.sG b o e
end
end Vx

namespace Vx
open PySem PySem.Spec PyProof.Rows L2
/-! ### lists of plain things (f : V.int, V.bl, V.str) -/
section
variable {α : Type} {f : α → V} {H : Hp} {p : Addr}
theorem cat_map {xs ys : List α} (h : H p = some (.lst (xs.map f ++ ys.map f))) : H p = some (.lst ((xs ++ ys).map f)) := by
  rw [List.map_append]; exact h
theorem snoc_map {xs : List α} {y : α} (h : H p = some (.lst (xs.map f ++ [f y]))) : H p = some (.lst ((xs ++ [y]).map f)) := by
  rw [List.map_append]; exact h
def repL (xs : List α) (k : Int) : List α := (List.replicate k.toNat xs).flatten
theorem rep_map {xs : List α} {k : Int} (h : H p = some (.lst (List.replicate k.toNat (xs.map f)).flatten)) : H p = some (.lst ((repL xs k).map f)) := by
  rw [h]
  unfold repL
  rw [List.map_flatten, List.map_replicate]
def cutL (xs : List α) (lo hi : Option Int) : List α := (xs.drop (HT.sIx xs.length 0 lo)).take (HT.sIx xs.length xs.length hi - HT.sIx xs.length 0 lo)
theorem cut_map {xs : List α} {lo hi : Option Int} (h : H p = some (.lst (cutV (xs.map f) lo hi))) : H p = some (.lst ((cutL xs lo hi).map f)) := by
  rw [h]
  unfold cutV cutL
  rw [List.length_map, List.map_take, List.map_drop]
theorem cast_map {xs ys : List α} (h : H p = some (.lst (xs.map f))) (e : xs = ys) : H p = some (.lst (ys.map f)) := e ▸ h
theorem drop_map {xs : List α} (h : H p = some (.lst (xs.map f).dropLast)) : H p = some (.lst (xs.dropLast.map f)) := by
  rw [h, List.map_dropLast]
theorem ixN_some {n : Nat} {k : Int} (h : -(n : Int) ≤ k ∧ k < n) : ∃ j, ixN n k = some j ∧ j < n := by
  unfold ixN
  by_cases h0 : 0 ≤ k
  · exact ⟨k.toNat, by rw [if_pos h0, if_pos h.2], by omega⟩
  · exact ⟨(k + n).toNat, by rw [if_neg h0, if_pos h.1], by omega⟩
def itD [Inhabited α] (xs : List α) (k : Int) : α := (atI xs k).getD default
theorem atI_map [Inhabited α] {xs : List α} {k : Int} (h : -(xs.length : Int) ≤ k ∧ k < xs.length) : atI (xs.map f) k = some (f (itD xs k)) := by
  obtain ⟨j, e, hj⟩ := ixN_some h
  unfold itD atI
  rw [List.length_map, e]
  show (xs.map f)[j]? = some (f ((xs[j]?).getD default))
  rw [List.getElem?_map, List.getElem?_eq_getElem hj] <;> rfl
def setL (xs : List α) (k : Int) (y : α) : List α := xs.set ((ixN xs.length k).getD 0) y
theorem ixN_map {xs : List α} {k : Int} (h : -(xs.length : Int) ≤ k ∧ k < xs.length) : ixN (xs.map f).length k = some ((ixN xs.length k).getD 0) := by
  obtain ⟨j, e, hj⟩ := ixN_some h
  rw [List.length_map, e] <;> rfl
theorem set_map {xs : List α} {k : Int} {y : α} (h : H p = some (.lst ((xs.map f).set ((ixN xs.length k).getD 0) (f y)))) : H p = some (.lst ((setL xs k y).map f)) := by
  rw [h]
  unfold setL
  rw [List.map_set]
def lastD [Inhabited α] (xs : List α) : α := xs.getLastD default
theorem pop_map [Inhabited α] {xs : List α} (h : xs ≠ []) : (xs.map f)[(xs.map f).length - 1]? = some (f (lastD xs)) := by
  rw [← List.getLast?_eq_getElem?, List.getLast?_map]
  unfold lastD
  cases e : xs.getLast? with
  | none => exact absurd (List.getLast?_eq_none_iff.mp e) h
  | some y =>
    rw [List.getLastD_eq_getLast?, e] <;> rfl
end
/-! ### lists of data -/
section
variable {α β : Type} {f : α → PyData} {g : β → PyData} {G : Hp} {vs ws : List V} {xs ys : List α}
theorem app_map (a : RpAll G vs (xs.map f)) (b : RpAll G ws (ys.map f)) : RpAll G (vs ++ ws) ((xs ++ ys).map f) := by
  rw [List.map_append]; exact a.append b
theorem one_map {v : V} {y : α} (a : RpAll G vs (xs.map f)) (b : Rp G v (f y)) : RpAll G (vs ++ [v]) ((xs ++ [y]).map f) := by
  rw [List.map_append]; exact a.append (.one b)
theorem rep_all (k : Int) (a : RpAll G vs (xs.map f)) : RpAll G (List.replicate k.toNat vs).flatten ((repL xs k).map f) := by
  unfold repL
  rw [List.map_flatten, List.map_replicate]
  exact a.rep _
theorem cut_all (lo hi : Option Int) (a : RpAll G vs (xs.map f)) : RpAll G (cutV vs lo hi) ((cutL xs lo hi).map f) := by
  unfold cutV cutL
  rw [a.len, List.length_map, List.map_take, List.map_drop]
  exact (a.drop _).take _
theorem rp_cast {v : V} {d e : PyData} (r : Rp G v d) (h : d = e) : Rp G v e := h ▸ r
theorem comp_listD {i : Nat} {x : α} {y : β} {v : V} {h : α → β} (hi : xs[i]? = some x) (a : RpAll G vs (((xs.take i).map h).map g)) (r : Rp G v (g y)) (e : h x = y) : RpAll G (vs ++ [v]) (((xs.take (i + 1)).map h).map g) := by
  rw [take_succ_get hi, List.map_append, List.map_append]
  exact a.append (.one (e ▸ r))
theorem comp_rangeD {i : Nat} {y : β} {v : V} {h : Nat → β} (a : RpAll G vs (((List.range i).map h).map g)) (r : Rp G v (g y)) (e : h i = y) : RpAll G (vs ++ [v]) (((List.range (i + 1)).map h).map g) := by
  rw [List.range_succ, List.map_append, List.map_append]
  exact a.append (.one (e ▸ r))
theorem comp_doneD {n : Nat} {h : List α → List β} (hl : n = xs.length) (a : RpAll G vs ((h (xs.take n)).map g)) : RpAll G vs ((h xs).map g) := by
  rw [hl, List.take_length] at a
  exact a
theorem comp_listFD {i : Nat} {x : α} {y : β} {v : V} {h : α → β} {q : α → Bool} (hi : xs[i]? = some x) (hq : q x = true) (a : RpAll G vs ((((xs.take i).filter q).map h).map g)) (r : Rp G v (g y)) (e : h x = y) : RpAll G (vs ++ [v]) ((((xs.take (i + 1)).filter q).map h).map g) := by
  rw [take_succ_get hi, List.filter_append, List.filter_cons, if_pos hq, List.map_append, List.map_append]
  exact a.append (.one (e ▸ r))
theorem skip_listD {i : Nat} {x : α} {h : α → β} {q : α → Bool} (hi : xs[i]? = some x) (hq : q x = false) (a : RpAll G vs ((((xs.take i).filter q).map h).map g)) : RpAll G vs ((((xs.take (i + 1)).filter q).map h).map g) := by
  rw [take_succ_get hi, List.filter_append, List.filter_cons, if_neg (by rw [hq]; decide), List.filter_nil, List.append_nil]
  exact a
end
section
variable {α β : Type} {f : β → V} {H : Hp} {D : Addr} {xs : List α}
theorem compM_list {i : Nat} {x : α} {y : β} {h : α → β} (hi : xs[i]? = some x) (a : H D = some (.lst (((xs.take i).map h).map f ++ [f y]))) (e : h x = y) : H D = some (.lst (((xs.take (i + 1)).map h).map f)) := by
  rw [a, ← e, take_succ_get hi, List.map_append, List.map_append] <;> rfl
theorem compM_range {i : Nat} {y : β} {h : Nat → β} (a : H D = some (.lst (((List.range i).map h).map f ++ [f y]))) (e : h i = y) : H D = some (.lst (((List.range (i + 1)).map h).map f)) := by
  rw [a, ← e, List.range_succ, List.map_append, List.map_append] <;> rfl
theorem compM_done {n : Nat} {h : List α → List β} (hl : n = xs.length) (a : H D = some (.lst ((h (xs.take n)).map f))) : H D = some (.lst ((h xs).map f)) := by
  rw [hl, List.take_length] at a
  exact a
theorem compM_listF {i : Nat} {x : α} {y : β} {h : α → β} {q : α → Bool} (hi : xs[i]? = some x) (hq : q x = true) (a : H D = some (.lst ((((xs.take i).filter q).map h).map f ++ [f y]))) (e : h x = y) : H D = some (.lst ((((xs.take (i + 1)).filter q).map h).map f)) := by
  rw [a, ← e, take_succ_get hi, List.filter_append, List.filter_cons, if_pos hq, List.map_append, List.map_append] <;> rfl
theorem skipM_list {i : Nat} {x : α} {h : α → β} {q : α → Bool} (hi : xs[i]? = some x) (hq : q x = false) (a : H D = some (.lst ((((xs.take i).filter q).map h).map f))) : H D = some (.lst ((((xs.take (i + 1)).filter q).map h).map f)) := by
  rw [a, take_succ_get hi, List.filter_append, List.filter_cons, if_neg (by rw [hq]; decide), List.filter_nil, List.append_nil]
theorem compM_rangeF {i : Nat} {y : β} {h : Nat → β} {q : Nat → Bool} (hq : q i = true) (a : H D = some (.lst ((((List.range i).filter q).map h).map f ++ [f y]))) (e : h i = y) : H D = some (.lst ((((List.range (i + 1)).filter q).map h).map f)) := by
  rw [a, ← e, List.range_succ, List.filter_append, List.filter_cons, if_pos hq, List.map_append, List.map_append] <;> rfl
theorem skipM_range {i : Nat} {h : Nat → β} {q : Nat → Bool} (hq : q i = false) (a : H D = some (.lst ((((List.range i).filter q).map h).map f))) : H D = some (.lst ((((List.range (i + 1)).filter q).map h).map f)) := by
  rw [a, List.range_succ, List.filter_append, List.filter_cons, if_neg (by rw [hq]; decide), List.filter_nil, List.append_nil]
end
/-! ### more rules -/
section
variable {X : Cx} {K : PySem.W.Frag}
theorem ix_tupK (hK : X.K = K := by rfl) : IxR X (rIxT K) := hK ▸ ix_tup
def rLenLK (K : PySem.W.Frag) : List V → Hp → VK → Prop := fun xs H Q => ∃ (p : Addr) (vs : List V) (n : Nat), xs = [.ref p] ∧ SqL K H p vs ∧ vs.length = n ∧ Q (.int (n : Int)) H
theorem call_lenLK (hK : X.K = K := by rfl) : CallR X (.builtin "len") (rLenLK K) := by
  subst hK
  intro pins s σ H xs us Q I r h
  obtain ⟨p, vs, n, rfl, hs, hn, q⟩ := h
  exact call_len_seq pins s σ H _ us Q I r ⟨p, _, rfl, Or.inl hs, by rw [hn]; exact q⟩
def rListLK (K : PySem.W.Frag) : List V → Hp → VK → Prop := fun xs H Q => ∃ (p : Addr) (vs : List V), xs = [.ref p] ∧ SqL K H p vs ∧ ∀ l, H l = none → Q (.ref l) (upd H l (.lst vs))
theorem call_listLK (hK : X.K = K := by rfl) : CallR X (.type "list") (rListLK K) := by
  subst hK
  intro pins s σ H xs us Q I r h
  obtain ⟨p, vs, rfl, hs, q⟩ := h
  exact call_list_of pins s σ H _ us Q I r ⟨p, _, rfl, Or.inl hs, q⟩
theorem cr_anyK (hc : X.calm = true) (hK : X.K = K := by rfl) : CallR X (.builtin "any") (rAny K) := hK ▸ cr_any hc
theorem cr_allK (hc : X.calm = true) (hK : X.K = K := by rfl) : CallR X (.builtin "all") (rAll K) := hK ▸ cr_all hc
theorem pi_tupK {tg l : Expr} {tl : TE} (hl : PE X l tl) (hK : X.K = K := by rfl) : PI X tg l (iTup K tl) := hK ▸ pi_tup hl
theorem pip {op : Operator} {r : R2} (h : OpR X (inplaceOp op) r) : PIp X op r := fun pins s σ H x y v u Q I rx ry q => h pins s σ H x y v u Q I rx ry q
/-- an item at a place from 0 on, by itself (ahead of o[i] op= e) -/
def rIxP (K : PySem.W.Frag) : R2 := fun x y H Q => ∃ (p : Addr) (xs : List V) (k : Int) (v : V), x = .ref p ∧ y = .int k ∧ SqL K H p xs ∧ 0 ≤ k ∧ k < 2 ^ 62 ∧ atI xs k = some v ∧ Q v H
theorem pget_list (hK : X.K = K := by rfl) : PGet X (rIxP K) := by
  subst hK
  intro pins s σ H o i ov iv Q I ro ri h
  obtain ⟨p, xs, k, v, rfl, rfl, hq, h0, h62, ha, q⟩ := h
  cases ro
  obtain ⟨t, rfl⟩ := ri
  obtain ⟨its, r, pl, hz⟩ := I.list hq
  obtain ⟨j, h1, h2, h3, h4, h5⟩ := atI_get ha
  obtain ⟨w, ew, rw'⟩ := r.get h2
  have hj : k.toNat = j := by
    rw [seqIndex_of h0 h5] at h1
    exact Option.some.inj h1
  exact getItem_listL pl.isList h0 (by omega) (by rw [hj]; simpa using ew) ⟨v, H, I, rw', q⟩
theorem tru_map {α : Type} [DecidableEq α] {f : α → V} {xs : List α} : (!decide (xs = [])) = !(xs.map f).isEmpty := by
  cases xs <;> simp
end
end Vx

namespace Vx
open PySem PySem.Spec PyProof.Rows L2
/-! ### objects -/
section
variable {M : List Addr} {H0 G0 G H H' : Hp} {O : List Addr} {p m : Addr} {o : HO}
theorem gen_obj {x dx : Addr} {o1 o2 : HO} (nx : H x = none) (nd : H dx = none) (ne : dx ≠ x) (h : upd (upd H dx o1) x o2 = H') : Same H H' ∧ H' x = some o2 := by
  subst h
  exact ⟨fun b u e => by rw [upd_ne (ne_of_none e nx), upd_ne (ne_of_none e nd)]; exact e, upd_same⟩
theorem sameX_of {m : Addr} (x : SameXs [m] H H') : SameX m H H' := fun b o e n => x b o e (by simpa using n)
theorem g_ne {a b : Addr} (h : G a = some o) (S : Sep M H0 G0 G H O) (hb : b ∈ O) : a ≠ b := fun z => by
  have := (S.ow b hb).1
  rw [← z, h] at this
  cases this
/-- an object whose making has laid some lists -/
theorem Sep.mutnew (S : Sep M H0 G0 G H O) {L : List Addr} (x : SameXs L H H') (hL : ∀ a ∈ L, a ∈ O) (hs : ∀ a ∈ L, H' a ≠ none) (hn : H p = none) (hp : H' p ≠ none) (h0 : H0 p = none) : Sep M H0 G0 G H' (p :: O) := by
  have S1 := S.mut x hL hs
  refine ⟨S1.base, S1.pm, S1.sG, S1.g0, S1.gn, all_cons ⟨S.gfree hn, hp, .inr h0⟩ S1.ow⟩
theorem Sep.init (S : Sep M H0 G0 G H O) (x : SameX m H H') (hm : m ∈ O) (h : H' m = some o) (L : List Addr) (hL : ∀ a ∈ L, H a = none ∧ H' a ≠ none ∧ H0 a = none) : Sep M H0 G0 G H' (L ++ O) := by
  have S1 := S.mut1 x hm h
  refine ⟨S1.base, S1.pm, S1.sG, S1.g0, S1.gn, fun a ha => ?_⟩
  rcases List.mem_append.mp ha with z | z
  · obtain ⟨h1, h2, h3⟩ := hL a z
    exact ⟨S.gfree h1, h2, .inr h3⟩
  · exact S1.ow a z
end
section
variable {P : Program} {w : World} {K : PySem.W.Frag} {mg : Str → Option Value} {base : Heap}
structure MethIn (K : PySem.W.Frag) (C : Addr) (q m : Str) (st : Stmt) (ps : List Str) : Prop where
  ex : ∃ (f : Addr) (fd : FuncData), Fun K m q st f fd ∧ Meth K C m f ∧ Binds K fd ps []
structure PropIn (K : PySem.W.Frag) (C : Addr) (q m : Str) (st : Stmt) (ps : List Str) : Prop where
  ex : ∃ (r f : Addr) (fd : FuncData), Fun K m q st f fd ∧ PropOf K C m r f ∧ Binds K fd ps []
structure InitIn (K : PySem.W.Frag) (mg : Str → Option Value) (C : Addr) (cn q : Str) (st : Stmt) (ps : List Str) : Prop where
  ex : ∃ (f : Addr) (fd : FuncData), Fun K "__init__" q st f fd ∧ Mk K C f ∧ mg cn = some (.ref C) ∧ Binds K fd ps []
structure MetC (P : Program) (w : World) (K : PySem.W.Frag) (mg : Str → Option Value) (base : Heap) (k : Nat) (C : Addr) (m : Str) (sp : Sp) : Prop where
  ex : ∃ (f : Addr) (fd : FuncData) (ps : List Str), Cls K C ∧ Meth K C m f ∧ FnOk P w K mg base CX0 k f fd ps sp ∧ Binds K fd ps []
structure PropC (P : Program) (w : World) (K : PySem.W.Frag) (mg : Str → Option Value) (base : Heap) (k : Nat) (C : Addr) (m : Str) (sp : Sp) : Prop where
  ex : ∃ (q f : Addr) (fd : FuncData) (ps : List Str), Cls K C ∧ PropOf K C m q f ∧ FnOk P w K mg base CX0 k f fd ps sp ∧ Binds K fd ps []
structure MakC (P : Program) (w : World) (K : PySem.W.Frag) (mg : Str → Option Value) (base : Heap) (k : Nat) (cn : Str) (C : Addr) (sp : Sp) : Prop where
  ex : ∃ (f : Addr) (fd : FuncData) (ps : List Str), Mk K C f ∧ FnOk P w K mg base CX0 k f fd ps sp ∧ mg cn = some (.ref C) ∧ Binds K fd ps []
abbrev Body (P : Program) (w : World) (K : PySem.W.Frag) (mg : Str → Option Value) (base : Heap) (x : Str) (st : Stmt) (N : List Str) (k : Nat) (sp : Sp) : Prop :=
  ∀ (f : Addr) (cdv : Value) (A : Around) (outer : List Env) (s : Shared) (H : Hp) (vs : List V) (Q : VK) (E : XK), Room k (A.deeper (envOfC x (defScope st) s.heap.objs.size f cdv)) → sp vs H Q E →
    ∃ t, PSs (cxOf CX0 P w K mg base N x (defScope st) f cdv A outer s H E).nox (defBody st) t ∧ t { nx := fun _ H' => Q .non H', rt := Q } (start N vs) H
theorem MethIn.ok {C : Addr} {q m : Str} {st : Stmt} {N ps : List Str} {k : Nat} {sp : Sp} (D : MethIn K C q m st ps) (c : Cls K C) (S : FnScope N ps (defScope st)) (len : ∀ vs H Q E, sp vs H Q E → vs.length = ps.length)
    (hbody : Body P w K mg base q st N k sp) : MetC P w K mg base (k + 1) C m sp := by
  obtain ⟨f, fd, F, me, b⟩ := D.ex
  exact ⟨f, fd, ps, c, me, F.ok S len (fun cdv A outer s H vs Q E hr h => hbody f cdv A outer s H vs Q E hr h), b⟩
theorem PropIn.ok {C : Addr} {q m : Str} {st : Stmt} {N ps : List Str} {k : Nat} {sp : Sp} (D : PropIn K C q m st ps) (c : Cls K C) (S : FnScope N ps (defScope st)) (len : ∀ vs H Q E, sp vs H Q E → vs.length = ps.length)
    (hbody : Body P w K mg base q st N k sp) : PropC P w K mg base (k + 1) C m sp := by
  obtain ⟨r, f, fd, F, me, b⟩ := D.ex
  exact ⟨r, f, fd, ps, c, me, F.ok S len (fun cdv A outer s H vs Q E hr h => hbody f cdv A outer s H vs Q E hr h), b⟩
theorem InitIn.ok {C : Addr} {cn q : Str} {st : Stmt} {N ps : List Str} {k : Nat} {sp : Sp} (D : InitIn K mg C cn q st ps) (S : FnScope N ps (defScope st)) (len : ∀ vs H Q E, sp vs H Q E → vs.length = ps.length)
    (hbody : Body P w K mg base q st N k sp) : MakC P w K mg base (k + 1) cn C sp := by
  obtain ⟨f, fd, F, me, hm, b⟩ := D.ex
  exact ⟨f, fd, ps, me, F.ok S len (fun cdv A outer s H vs Q E hr h => hbody f cdv A outer s H vs Q E hr h), hm, b⟩
end
section
variable {X : Cx} {k j : Nat} {C : Addr} {x m : Str} {sp : Sp} {p pos apos : Pos} {e o : Expr} {es : List Expr} {ta : TE} {t : TA}
theorem vx_call0 (c : Cal X.prog X.w X.K X.mg X.base k x sp) (hr : Room j X.A) (hk : k ≤ j) (hg : Gl X x) (hdb : (x == ("__debug__" : Str)) = false := by decide) : PE X (.Call (.Name x p) [] [] pos) (tCall sp [] E0 tNil) := by
  obtain ⟨f, fd, ps, F, hm, kp, b⟩ := c.ex
  exact pe_call0 F (hr.mono hk) hg hm kp b .nil pass0 hdb
theorem vx_make (c : MakC X.prog X.w X.K X.mg X.base k x C sp) (hr : Room j X.A) (hk : k + 1 ≤ j) (hg : Gl X x) (ha : PA X (e :: es) t)
    (hdb : (x == ("__debug__" : Str)) = false := by decide) (he : starEach (e :: es) X.env = (false, eval e X.env) :: starEach es X.env := by rfl) (hpl : (backTo pos (starEach es X.env)).any (·.1) = false := by rfl) :
    PE X (.Call (.Name x p) (e :: es) [] pos) (tMake C sp [] E0 t) := by
  obtain ⟨f, fd, ps, M, F, hm, b⟩ := c.ex
  exact pe_make M F (hr.mono hk) hg hm b .nil pass0 ha hdb he hpl
theorem vx_make0 (c : MakC X.prog X.w X.K X.mg X.base k x C sp) (hr : Room j X.A) (hk : k + 1 ≤ j) (hg : Gl X x) (hdb : (x == ("__debug__" : Str)) = false := by decide) :
    PE X (.Call (.Name x p) [] [] pos) (tMake C sp [] E0 tNil) := by
  obtain ⟨f, fd, ps, M, F, hm, b⟩ := c.ex
  exact pe_make0 M F (hr.mono hk) hg hm b .nil pass0 hdb
theorem vx_meth {pl : Sem Bool} (c : MetC X.prog X.w X.K X.mg X.base k C m sp) (hr : Room j X.A) (hk : k ≤ j) (he : PE X o ta) (ha : PA X (e :: es) t)
    (hst : starEach (e :: es) X.env = (false, eval e X.env) :: starEach es X.env := by rfl) (hpl : (backTo pos (starEach es X.env)).any (·.1) = false := by rfl)
    (ht : eval (.Call (.Attribute o m apos) (e :: es) [] pos) X.env = (do
      let ov ← eval o X.env
      standAt apos.atName
      let (f, first) ← holding [ov] (getMethod ov m pl)
      callWith pos f first (backTo pos (starEach (e :: es) X.env)) (backToKw pos (keywordEach [] X.env))) := by rfl) :
    PE X (.Call (.Attribute o m apos) (e :: es) [] pos) (tMeth C m sp [] E0 ta t) := by
  obtain ⟨f, fd, ps, hc, hm, F, b⟩ := c.ex
  exact pe_meth he hc hm F (hr.mono hk) b .nil pass0 ha hst hpl ht
theorem vx_meth0 {pl : Sem Bool} (c : MetC X.prog X.w X.K X.mg X.base k C m sp) (hr : Room j X.A) (hk : k ≤ j) (he : PE X o ta)
    (ht : eval (.Call (.Attribute o m apos) [] [] pos) X.env = (do
      let ov ← eval o X.env
      standAt apos.atName
      let (f, first) ← holding [ov] (getMethod ov m pl)
      callWith pos f first (backTo pos (starEach [] X.env)) (backToKw pos (keywordEach [] X.env))) := by rfl) :
    PE X (.Call (.Attribute o m apos) [] [] pos) (tMeth C m sp [] E0 ta tNil) := by
  obtain ⟨f, fd, ps, hc, hm, F, b⟩ := c.ex
  exact pe_meth0 he hc hm F (hr.mono hk) b .nil pass0 ht
theorem vx_prop (c : PropC X.prog X.w X.K X.mg X.base k C m sp) (hr : Room j X.A) (hk : k + 1 ≤ j) (he : PE X o ta) (hab : attributeBase o m X.env (eval o X.env) = eval o X.env) : PE X (.Attribute o m pos) (tProp C sp [] E0 ta) := by
  obtain ⟨q, f, fd, ps, hc, hp, F, b⟩ := c.ex
  exact pe_prop he hc hp F (hr.mono hk) b .nil pass0 hab
end
theorem iteBNT {b : Bool} {A B : Prop} (h : b = false) (k : A) : if (!b) = true then A else B := by rw [h]; exact iteT k
theorem iteNN {b : Bool} {A B : Prop} (h : if b = true then A else B) : if (!!b) = true then A else B := by rw [Bool.not_not]; exact h
theorem iteBNF {b : Bool} {A B : Prop} (h : b = true) (k : B) : if (!b) = true then A else B := by rw [h]; exact iteF k
theorem shl_side {i j : Int} (h0 : 0 ≤ j) (h1 : j ≤ 4096) (h2 : -(2 ^ 4096) < i) (h3 : i < 2 ^ 4096) : CShl i j := by
  obtain ⟨k, rfl⟩ := Int.eq_ofNat_of_zero_le h0
  exact shl_ok (n := 4096) (by omega) (by omega)
end Vx

namespace Vx
open PySem PySem.Spec PyProof.Rows L2
section
variable {X : Cx} {K : PySem.W.Frag}
theorem fldK {e : Expr} {f : Str} {pos : Pos} {ta : TE} (he : PE X e ta) (hb : attributeBase e f X.env (eval e X.env) = eval e X.env := by rfl) (hK : X.K = K := by rfl) : PE X (.Attribute e f pos) (tFld K ta f) := hK ▸ pe_fld he hb
theorem pg_tupK {es : List Expr} {k : Nat} {t : TGs} {n : Nat} {pos : Pos} (h : PGs X es t) (hc : X.calm = true := by rfl)
    (hn : (assignEach es X.env).length = n := by rfl) (hst : (assignEach es X.env).findIdx? (·.1) = none := by rfl) (hK : X.K = K := by rfl) : PG X (.Tuple es k pos) (gTup K n t) := hK ▸ pg_tup hc h hn hst
end
end Vx

namespace Vx
open PySem PySem.Spec PyProof.Rows L2
section
variable {α β : Type} {f : α → PyData} {g : β → PyData} {fv : α → V} {gv : β → V} {G : Hp} {vs ws : List V} {xs : List α} {ys : List β}
theorem big1 {n : Nat} (h : n ≤ 1000000) : n ≤ sizeLine := smallE h
theorem cat_len (a : RpAll G vs (xs.map f)) (b : RpAll G ws (ys.map g)) (h : xs.length + ys.length ≤ 1000000) : vs.length + ws.length ≤ sizeLine := by
  rw [a.len, b.len, List.length_map, List.length_map]; exact smallE h
theorem cat_lenM (h : xs.length + ys.length ≤ 1000000) : (xs.map fv).length + (ys.map gv).length ≤ sizeLine := by
  rw [List.length_map, List.length_map]; exact smallE h
theorem rep_len {k : Nat} (a : RpAll G vs (xs.map f)) (h : xs.length * k ≤ 1000000) : vs.length * k ≤ sizeLine := by
  rw [a.len, List.length_map]; exact smallE h
theorem rep_lenM {k : Nat} (h : xs.length * k ≤ 1000000) : (xs.map fv).length * k ≤ sizeLine := by
  rw [List.length_map]; exact smallE h
theorem app_len (a : RpAll G vs (xs.map f)) (h : xs.length ≤ 1000000) : vs.length < sizeLine := by
  rw [a.len, List.length_map]; exact small h
theorem app_lenM (h : xs.length ≤ 1000000) : (xs.map fv).length < sizeLine := by
  rw [List.length_map]; exact small h
theorem cutL_len {α : Type} (xs : List α) (lo hi : Option Int) : (cutL xs lo hi).length ≤ xs.length := by
  unfold cutL
  rw [List.length_take, List.length_drop]
  omega
theorem repL_len {α : Type} (xs : List α) (k : Int) : (repL xs k).length = k.toNat * xs.length := by
  unfold repL
  simp
end
end Vx
/-! # promises of defs that know that nothing is being shown (so that repr may be called) -/
namespace Vx
open PySem PySem.Spec PyProof.Rows L2
structure RoomG (k : Nat) (A : Around) : Prop extends Room k A where
  gd : A.guards = some []
theorem RoomG.low {j k : Nat} {A : Around} (r : RoomG k A) (h : j ≤ k) : RoomG j A := ⟨r.toRoom.mono h, r.gd⟩
theorem RoomG.one {k : Nat} {A : Around} (r : RoomG (k + 1) A) : RoomG k A.in1 := ⟨r.toRoom.in1, r.gd⟩
theorem make_gd {A : Around} (C : Addr) (us : List Value) (kw : List (Str × Value)) (h : A.guards = some []) : (A.under (.builtin "type.__call__" ⟨.ref C :: us, kw⟩)).guards = some [] := by
  obtain ⟨hd, d, fr, gs, u⟩ := A
  subst h
  simp [Around.under, Code.guards, Code.isGuard, guardIds, pushGuards]
theorem RoomG.made {k : Nat} {A : Around} (r : RoomG (k + 1) A) (C : Addr) (us : List Value) (kw : List (Str × Value)) : RoomG k (A.under (.builtin "type.__call__" ⟨.ref C :: us, kw⟩)) := ⟨r.toRoom.make C us kw, make_gd C us kw r.gd⟩
structure FnG (P : Program) (w : World) (K : PySem.W.Frag) (mg : Str → Option Value) (base : Heap) (cx : CXT) (k : Nat) (f : Addr) (fd : FuncData) (ps : List Str) (sp : Sp) : Prop where
  len : ∀ vs H Q E, sp vs H Q E → vs.length = ps.length
  run : ∀ (A : Around) (outer : List Env) (s : Shared) (H : Hp) (args : Args) (us : List Value) (vs : List V) (Q : VK) (E : XK), RoomG k A → Env0 P w K mg base A outer s H → BindsTo s fd args (ps.zip us) → Vals vs us → sp vs H Q E → codeAny (model P w) A (.call (.ref f) args) (CR cx outer P w H s Q E) s
section
variable {P : Program} {w : World} {K : PySem.W.Frag} {mg : Str → Option Value} {base : Heap} {cx : CXT} {j k : Nat} {f : Addr} {fd : FuncData} {ps : List Str} {sp sp' : Sp}
theorem FnG.imp (F : FnG P w K mg base cx k f fd ps sp) (h : ∀ vs H Q E, sp' vs H Q E → sp vs H Q E) : FnG P w K mg base cx k f fd ps sp' := ⟨fun vs H Q E q => F.len vs H Q E (h vs H Q E q), fun A o s H a us vs Q E r e b v q => F.run A o s H a us vs Q E r e b v (h vs H Q E q)⟩
/-- the body's promise is the def's -/
theorem FnG.body {x qual : Str} {params : Arguments} {body : List Stmt} {scope : Scope} {dvs : List V} {kws : List (Str × V)} {N : List Str} (F : FunD K x qual params body scope dvs kws f fd) (S : FnScope N ps scope) (len : ∀ vs H Q E, sp vs H Q E → vs.length = ps.length)
    (hb : ∀ (cdv : Value) (A : Around) (outer : List Env) (s : Shared) (H : Hp) (vs : List V) (Q : VK) (E : XK), RoomG k (A.deeper (envOfC qual scope s.heap.objs.size f cdv)) → sp vs H Q E →
      ∃ t, PSs (cxOf cx P w K mg base N qual scope f cdv A outer s H E) body t ∧ t { nx := fun _ H' => Q .non H', rt := Q } (start N vs) H) : FnG P w K mg base cx (k + 1) f fd ps sp := by
  obtain ⟨oc, od, dV, kV, doc, pm, an, cdv, ct, osl, rfl, lk, code, _, _⟩ := F.ex
  constructor
  · exact len
  · intro A outer s H args us vs Q E room env binds vals prom
    have nvs := len vs H Q E prom
    have kin : K.In s.heap := env.mod.kin.keeps fun b o q => (env.bs b o q).1
    have nolim : s.heap.NoLimit := env.mod.nolimit.keeps fun b o q => (env.bs b o q).1
    have kinds : ∀ q ∈ ps.zip us, scope.names.lookup q.1 = some .local ∨ (scope.names.lookup q.1 = some .cell ∧ ((cellsFrom (s.heap.objs.size + 1) scope.names []).lookup q.1).isSome = true) := by
      rintro ⟨n, v⟩ hq
      cases S.par n (List.of_mem_zip hq).1 with
      | inl z => exact .inl z
      | inr z => exact .inr ⟨z, PySem.W.cellsFrom_some _ _ _ (.inl z)⟩
    refine codeAny_call_function room.toRoom.depth (kin _ _ lk) rfl S.co S.gen rfl (PySem.W.codeRec_of kin code) (binds _ _ _ _ ?_)
    refine wpAny_newFunctionEnv_cells S.kind kinds ?_
    rintro _ rfl s1 made
    refine ⟨nolim.keeps made.toInCall.keep, codeAny_func ?_⟩
    obtain ⟨t, pss, start_⟩ := hb cdv A outer s H vs Q E ⟨room.toRoom.deeper _, room.gd⟩ prom
    have inv := inv_start (CX := cx) (E := E) S room.hd env nvs vals made
    have close : ∀ {τ : L2.St} {H2 : Hp} {v : V} {u : Value} {s2 : Shared}, Inv (cxOf cx P w K mg base N qual scope f cdv A outer s H E) [] τ H2 s2 → RelV v u → Q v H2 → CE outer P w H s Q u s2 := fun inv2 rel q => ⟨_, _, inv2.os, inv2.bare, inv2.base, inv2.hok, rel, q⟩
    refine wpAny_mono (pss.run [] s1 (start N vs) H _ inv start_) ?_ fun _ _ z => z
    intro flow s2 out
    cases flow with
    | next =>
      obtain ⟨τ, H2, inv2, q⟩ := out
      exact close (v := .non) (u := .none) inv2 rfl q
    | ret u =>
      obtain ⟨v, τ, H2, inv2, rel, q⟩ := out
      exact close inv2 rel q
    | brk =>
      obtain ⟨_, _, _, q⟩ := out
      exact q.elim
    | cont =>
      obtain ⟨_, _, _, q⟩ := out
      exact q.elim
/-- the same of a body that nothing leaves -/
theorem FnG.bodyN {x qual : Str} {params : Arguments} {body : List Stmt} {scope : Scope} {dvs : List V} {kws : List (Str × V)} {N : List Str} (F : FunD K x qual params body scope dvs kws f fd) (S : FnScope N ps scope) (len : ∀ vs H Q E, sp vs H Q E → vs.length = ps.length)
    (hb : ∀ (cdv : Value) (A : Around) (outer : List Env) (s : Shared) (H : Hp) (vs : List V) (Q : VK) (E : XK), RoomG k (A.deeper (envOfC qual scope s.heap.objs.size f cdv)) → sp vs H Q E →
      ∃ t, PSs (cxOf CX0 P w K mg base N qual scope f cdv A outer s H E).nox body t ∧ t { nx := fun _ H' => Q .non H', rt := Q } (start N vs) H) : FnG P w K mg base CX0 (k + 1) f fd ps sp :=
  FnG.body F S len fun cdv A outer s H vs Q E r p => by
    obtain ⟨t, h, q⟩ := hb cdv A outer s H vs Q E r p
    exact ⟨t, h.nox, q⟩
end
/-- where a law's call begins: an abstract heap that tells the script at most -/
theorem law_start {P : Program} {w : World} {K : PySem.W.Frag} {mg mb : Str → Option Value} {a : Addr} {s : Shared} {vs : List Value} {ns : List Int} (kin : K.In s.heap) (top : s.heap.Ns mainGlobals mg) (blt : s.heap.Ns builtinsNs mb) (boot : ∀ y : Str, y ≠ "__name__" → mb y = bootBuiltins y)
    (lim : s.heap.NoLimit) (gens : s.gens = #[]) (script : s.heap.get? a = some { cls := .type "list", data := .seq vs.toArray }) (whole : IntsAre vs ns) (short : ns.length ≤ sizeLine) :
    ∃ (H : Hp) (base : Heap), SqL K H a (ns.map V.int) ∧ K.In base ∧ base.Ns mainGlobals mg ∧ Env0 P w K mg base callerA [] s H ∧
      ∀ (Z : V → Prop) (u : Value) (s2 : Shared), CE [] P w H s (fun v _ => Z v) u s2 → (∃ v, RelV v u ∧ Z v) ∧ OldK s.heap s2.heap ∧ s2.os = s.os ∧ AllBare s2.gens := by
  have rel := vals_ints whole
  have lenV := whole.length
  -- any H that tells no more than the script, and that only where the written part does not hold it, will do
  have fits : ∀ H : Hp, (∀ b, H b = none ∨ ∃ o xs, H b = some (.frz o (.lst xs))) → SqL K H a (ns.map V.int) → HOk P w H s.heap → (∀ b, b ≠ a → H b = none) → (∀ o, K.lookup a = some o → H a = none) →
      ∃ (H : Hp) (base : Heap), SqL K H a (ns.map V.int) ∧ K.In base ∧ base.Ns mainGlobals mg ∧ Env0 P w K mg base callerA [] s H ∧
        ∀ (Z : V → Prop) (u : Value) (s2 : Shared), CE [] P w H s (fun v _ => Z v) u s2 → (∃ v, RelV v u ∧ Z v) ∧ OldK s.heap s2.heap ∧ s2.os = s.os ∧ AllBare s2.gens := by
    intro H only seq ok else_ apart
    have dictFree : ∀ (b : Addr) (o : Obj) (es : Array DictEntry) (n : Nat), s.heap.get? b = some o → o.data = .dict es n → H b = none := by
      intro b o es n e d
      by_cases z : b = a
      · subst z
        rw [script] at e
        injection e with e
        subst e
        cases d
      · exact else_ b z
    have nsOf : ∀ {b : Addr} {m : Str → Option Value}, s.heap.Ns b m → (hidT s.heap H).Ns b m := by
      rintro b m ⟨o, es, n, e, d, r⟩
      exact ⟨o, es, n, hidT_get e (dictFree b o es n e d), d, r⟩
    have kinB : K.In (hidT s.heap H) := by
      intro b o e
      refine hidT_get (kin b o e) ?_
      by_cases z : b = a
      · subst z
        exact apart o e
      · exact else_ b z
    obtain ⟨mc, lim1, lim2⟩ := lim
    refine ⟨H, hidT s.heap H, seq, kinB, nsOf top, ⟨rfl, ⟨kinB, nsOf top, ⟨mb, nsOf blt, boot⟩, mc, nsOf lim1, lim2⟩, fun b o e => of_hidT e, Nat.le_of_eq (hidT_size _ _), trivial, fun b hb => (nomatch (show b ∈ ([] : List Addr) from hb)), ok, .of_eq gens⟩, ?_⟩
    rintro Z u s2 ⟨v, H2, os, bare, un, ok2, r, z⟩
    refine ⟨⟨v, r, z⟩, OldK.of_keep fun b o e => ?_, os, bare⟩
    rcases only b with n | ⟨o1, xs, n⟩
    · exact un.keep b o e n (fun y => nomatch (show b ∈ ([] : List Addr) from y)) (fun y => nomatch y)
    · obtain ⟨e1, _⟩ := ok b _ n
      obtain ⟨e2, _⟩ := ok2 b _ (un.frzs b o1 _ n)
      rw [e] at e1
      injection e1 with e1
      subst e1
      exact e2
  cases kl : K.lookup a with
  | some o =>
    have e := kin a o kl
    rw [script] at e
    injection e with e
    subst e
    exact fits (fun _ => none) (fun _ => .inl rfl) (.inr ⟨_, vs.toArray, _, kl, rfl, rfl, rfl, by rw [List.size_toArray, lenV]; exact short, by simpa using rel⟩) (fun _ _ z => nomatch z) (fun _ _ => rfl) fun _ _ => rfl
  | none =>
    refine fits (fun b => if b = a then some (.frz { cls := .type "list", data := .seq vs.toArray } (.lst (ns.map V.int))) else none) ?_ (.inl (.inr ⟨_, if_pos rfl⟩)) ?_ (fun b n => if_neg n) fun o z => ?_
    · intro b
      by_cases z : b = a
      · exact .inr ⟨_, _, if_pos z⟩
      · exact .inl (if_neg z)
    · intro b u q
      by_cases z : b = a
      · subst z
        have q := (if_pos rfl).symm.trans q
        injection q with q
        subst q
        exact ⟨script, by rw [List.length_map]; exact short, vs, _, rel, script⟩
      · have q := (if_neg z).symm.trans q
        cases q
    · rw [kl] at z
      cases z
/-- the goal that the head leaves, from the law's promise; the script's numbers have at most 2 ^ 20 bits -/
theorem walkG {l : PySem.W.OpenLaw} {n k : Nat} {q : Program} {loose : List Str} {XP : (Str → Option Value) → Heap → Prop} {YP : World → Heap → Prop} {d : DefRec} {K : Params → PySem.W.Frag} {x : Str} (hn : l.most = some n) (hn2 : n ≤ sizeLine) (hdf : d.params.defaults = []) (room : Room k callerA)
    (hY : ∀ (w : World) (h : Heap), YP w h → (K w.params).In h)
    (F : ∀ (w : World) (mg : Str → Option Value) (fa : Addr) (h : Heap), (K w.params).In h → h.Ns mainGlobals mg → mg d.name = some (.ref fa) →
      ∃ fd : FuncData, (∀ (s : Shared) (u : Value), BindsTo s fd ⟨[u], []⟩ [(x, u)]) ∧ ∀ base : Heap, (K w.params).In base → base.Ns mainGlobals mg → FnG l.prog w (K w.params) mg base CX0 k fa fd [x] (fun vs H Q _ => ∃ (a : Addr) (ns : List Int), vs = [.ref a] ∧ SqL (K w.params) H a (ns.map V.int) ∧ ns.length ≤ n ∧ ∀ H', Q (.bl true) H')) :
    PySem.W.WalkO q loose XP YP l.row.toRowW d [] (fun f vs => PySem.call f vs) := by
  refine Att.attach_call hn hdf ?_
  intro w s₀ s₁ mg mb fa o pm cd doc a vs ns G Y _ _ _ hmg script whole short gens
  have kin := hY w _ Y
  obtain ⟨fd, bind, prom⟩ := F w mg fa _ kin G.T.g hmg
  obtain ⟨H, base, seq, kinB, nsB, env, fin⟩ := law_start (P := l.prog) (w := w) kin G.T.g G.T.b G.T.builtins G.T.nolimit gens script whole (Nat.le_trans short hn2)
  refine codeAny_mono ((prom base kinB nsB).run callerA [] s₁ H ⟨[.ref a], []⟩ [.ref a] [.ref a] (fun v _ => v = .bl true) (fun _ _ _ => False) ⟨room, rfl⟩ env (bind s₁ (.ref a)) (.cons rfl .nil) ⟨a, ns, rfl, seq, short, fun _ => rfl⟩) ?_
  intro r s2 out
  cases r with
  | error e => exact out.elim
  | ok flow =>
    cases flow with
    | ret u =>
      obtain ⟨⟨v, rv, z⟩, h1, h2, h3⟩ := fin (fun v => v = .bl true) u s2 out
      subst z
      obtain rfl : u = Value.bool true := rv
      exact ⟨rfl, h1, h2, h3⟩
    | next => exact out.elim
    | brk => exact out.elim
    | cont => exact out.elim
end Vx
/-! # third part: what a def computes, as a plain function with refusals -/
namespace Vx
open PySem PySem.Spec PyProof.Rows L2
inductive Rx (α : Type) where
  | ok (a : α)
  | er (e : Nat)
  | bad
def Rx.bind {α β : Type} (m : Rx α) (f : α → Rx β) : Rx β :=
  match m with
  | .ok a => f a
  | .er e => .er e
  | .bad => .bad
/-- what is wanted of an outcome -/
@[irreducible] def cW {α : Type} (m : Rx α) (K : α → Prop) (E : Nat → Prop) : Prop :=
  match m with
  | .ok a => K a
  | .er e => E e
  | .bad => False
def grd {α : Type} (p : Prop) [Decidable p] (m : Rx α) : Rx α := if p then m else .bad
/-- within a comprehension nothing may be raised -/
def noEr {α : Type} (m : Rx α) : Rx α :=
  match m with
  | .ok a => .ok a
  | _ => .bad
/-- what the clause does not name may not come -/
def tryR {α β : Type} (m : Rx α) (cs : List Nat) (f : α → Rx β) (h : Nat → Rx β) : Rx β :=
  match m with
  | .ok a => f a
  | .er e => if e ∈ cs then h e else .bad
  | .bad => .bad
def bnd {α β : Type} (a : α) (f : α → Rx β) : Rx β := f a
inductive Lp (σ ρ : Type) where
  | go (s : σ)
  | bk (s : σ)
  | rt (r : ρ)
def Lp.aft {σ ρ τ : Type} (l : Lp σ ρ) (kr : ρ → Rx τ) (k : σ → Rx τ) : Rx τ :=
  match l with
  | .go s => k s
  | .bk s => k s
  | .rt r => kr r
def forS {σ α : Type} : List α → σ → (σ → α → Rx σ) → Rx σ
  | [], s, _ => .ok s
  | x :: r, s, f => (f s x).bind fun s' => forS r s' f
def forR {σ α ρ : Type} : List α → σ → (σ → α → Rx (Lp σ ρ)) → Rx (Lp σ ρ)
  | [], s, _ => .ok (.go s)
  | x :: r, s, f => (f s x).bind fun l =>
    match l with
    | .go s' => forR r s' f
    | .bk s' => .ok (.go s')
    | .rt v => .ok (.rt v)
def whileR {σ ρ : Type} : Nat → σ → (σ → Rx (Lp σ ρ)) → Rx (Lp σ ρ)
  | 0, _, _ => .bad
  | n + 1, s, f => (f s).bind fun l =>
    match l with
    | .go s' => whileR n s' f
    | .bk s' => .ok (.go s')
    | .rt v => .ok (.rt v)
def mapA {α β : Type} : List α → List β → (α → Rx β) → Rx (List β)
  | [], acc, _ => .ok acc
  | x :: r, acc, f => grd (acc.length ≤ 1000000) ((f x).bind fun y => mapA r (acc ++ [y]) f)
def mapF {α β : Type} : List α → List β → (α → Rx (Option β)) → Rx (List β)
  | [], acc, _ => .ok acc
  | x :: r, acc, f => grd (acc.length ≤ 1000000) ((f x).bind fun y =>
    match y with
    | some z => mapF r (acc ++ [z]) f
    | none => mapF r acc f)
section
variable {α β γ σ ρ τ : Type} {K : α → Prop} {E : Nat → Prop}
theorem cW_ok {a : α} (h : cW (.ok a) K E) : K a := by
  unfold cW at h
  exact h
theorem cW_er {e : Nat} (h : cW (.er e : Rx α) K E) : E e := by
  unfold cW at h
  exact h
theorem cW_bad {C : Prop} (h : cW (.bad : Rx α) K E) : C := by
  unfold cW at h
  exact h.elim
theorem cW_mk {a : α} (h : K a) : cW (.ok a) K E := by
  unfold cW
  exact h
theorem cW_mkE {e : Nat} (h : E e) : cW (.er e : Rx α) K E := by
  unfold cW
  exact h
theorem cW_gen {m : Rx α} (h : cW m K E) : ∃ (K' : α → Prop) (E' : Nat → Prop), (∀ v, K' v → K v) ∧ (∀ e, E' e → E e) ∧ cW m K' E' := ⟨K, E, fun _ x => x, fun _ x => x, h⟩
theorem cW_grd {p : Prop} {dp : Decidable p} {m : Rx α} (h : cW (grd p m) K E) : p ∧ cW m K E := by
  unfold grd at h
  split at h
  · exact ⟨‹p›, h⟩
  · exact cW_bad h
theorem cW_pos {p : Prop} {dp : Decidable p} {a b : Rx α} (c : p) (h : cW (if p then a else b) K E) : cW a K E := by rwa [if_pos c] at h
theorem cW_neg {p : Prop} {dp : Decidable p} {a b : Rx α} (c : ¬ p) (h : cW (if p then a else b) K E) : cW b K E := by rwa [if_neg c] at h
theorem cW_call {m : Rx β} {f : β → Rx α} {K2 : β → Prop} {E2 : Nat → Prop} (h : cW (m.bind f) K E) (ho : ∀ v, cW (f v) K E → K2 v) (he : ∀ e, E e → E2 e) : cW m K2 E2 := by
  cases m with
  | ok a => exact cW_mk (ho a h)
  | er e => exact cW_mkE (he e (cW_er (α := α) h))
  | bad => exact cW_bad (α := α) h
theorem cW_push {m : Rx β} {f : β → Rx α} (h : cW (m.bind f) K E) : ∃ K2 : β → Prop, (∀ v, K2 v → cW (f v) K E) ∧ cW m K2 E := ⟨fun v => cW (f v) K E, fun _ x => x, cW_call h (fun _ x => x) fun _ x => x⟩
theorem cW_name {m : Rx α} (h : cW m K E) : ∃ K' : α → Prop, (∀ v, K' v → K v) ∧ cW m K' E := ⟨K, fun _ x => x, h⟩
theorem cW_noEr {m : Rx α} (h : cW (noEr m) K E) : cW m K (fun _ => False) := by
  cases m with
  | ok a => exact cW_mk (cW_ok (α := α) h)
  | er e => exact cW_bad (α := α) h
  | bad => exact cW_bad (α := α) h
theorem cW_try {m : Rx β} {cs : List Nat} {f : β → Rx α} {g : Nat → Rx α} {K2 : β → Prop} {E2 : Nat → Prop} (h : cW (tryR m cs f g) K E) (ho : ∀ v, cW (f v) K E → K2 v) (hc : ∀ e, e ∈ cs → cW (g e) K E → E2 e) : cW m K2 E2 := by
  cases m with
  | ok a => exact cW_mk (ho a h)
  | er e =>
    have h2 : cW (if e ∈ cs then g e else .bad) K E := h
    by_cases q : e ∈ cs
    · exact cW_mkE (hc e q (cW_pos q h2))
    · exact cW_bad (cW_neg q h2)
  | bad => exact cW_bad (α := α) h
theorem cW_bnd {a : β} {f : β → Rx α} (h : cW (bnd a f) K E) : cW (f a) K E := h
theorem cW_negB {b : Bool} {x y : Rx α} (c : b = false) (h : cW (if b = true then x else y) K E) : cW y K E := cW_neg (by rw [c]; decide) h
theorem cW_forS {xs : List β} {i : Nat} {x : β} {s : α} {f : α → β → Rx α} (hx : xs[i]? = some x) (h : cW (forS (xs.drop i) s f) K E) : cW (f s x) (fun s' => cW (forS (xs.drop (i + 1)) s' f) K E) E := by
  rw [List.drop_eq_getElem?_toList_append, hx] at h
  exact cW_call h (fun _ z => z) fun _ z => z
theorem cW_forS0 {xs : List β} {n : Nat} {s : α} {f : α → β → Rx α} (hn : n = xs.length) (h : cW (forS (xs.drop n) s f) K E) : K s := by
  subst hn
  rw [List.drop_length] at h
  exact cW_ok h
theorem cW_forR {K : Lp σ ρ → Prop} {xs : List β} {i : Nat} {x : β} {s : σ} {f : σ → β → Rx (Lp σ ρ)} (hx : xs[i]? = some x) (h : cW (forR (xs.drop i) s f) K E) :
    cW (f s x) (fun l => match l with | .go s' => cW (forR (xs.drop (i + 1)) s' f) K E | .bk s' => K (.go s') | .rt v => K (.rt v)) E := by
  rw [List.drop_eq_getElem?_toList_append, hx] at h
  refine cW_call h (fun l z => ?_) fun _ z => z
  cases l with
  | go s' => exact z
  | bk s' => exact cW_ok (K := K) (a := .go s') z
  | rt v => exact cW_ok (K := K) (a := .rt v) z
theorem cW_forR0 {K : Lp σ ρ → Prop} {xs : List β} {n : Nat} {s : σ} {f : σ → β → Rx (Lp σ ρ)} (hn : n = xs.length) (h : cW (forR (xs.drop n) s f) K E) : K (.go s) := by
  subst hn
  rw [List.drop_length] at h
  exact cW_ok h
theorem cW_whileR {K : Lp σ ρ → Prop} {m : Nat} {s : σ} {f : σ → Rx (Lp σ ρ)} (h : cW (whileR m s f) K E) :
    ∃ n, m = n + 1 ∧ cW (f s) (fun l => match l with | .go s' => cW (whileR n s' f) K E | .bk s' => K (.go s') | .rt v => K (.rt v)) E := by
  cases m with
  | zero => exact cW_bad h
  | succ n =>
    refine ⟨n, rfl, cW_call h (fun l z => ?_) fun _ z => z⟩
    cases l with
    | go s' => exact z
    | bk s' => exact cW_ok (K := K) (a := .go s') z
    | rt v => exact cW_ok (K := K) (a := .rt v) z
theorem cW_mapA {K : List α → Prop} {xs : List β} {acc : List α} {i : Nat} {x : β} {f : β → Rx α} (hx : xs[i]? = some x) (h : cW (mapA (xs.drop i) acc f) K E) :
    acc.length ≤ 1000000 ∧ cW (f x) (fun y => cW (mapA (xs.drop (i + 1)) (acc ++ [y]) f) K E) E := by
  rw [List.drop_eq_getElem?_toList_append, hx] at h
  obtain ⟨z, h⟩ := cW_grd h
  exact ⟨z, cW_call h (fun _ z => z) fun _ z => z⟩
theorem cW_mapA0 {K : List α → Prop} {xs : List β} {acc : List α} {n : Nat} {f : β → Rx α} (hn : n = xs.length) (h : cW (mapA (xs.drop n) acc f) K E) : K acc := by
  subst hn
  rw [List.drop_length] at h
  exact cW_ok h
theorem cW_mapF {K : List α → Prop} {xs : List β} {acc : List α} {i : Nat} {x : β} {f : β → Rx (Option α)} (hx : xs[i]? = some x) (h : cW (mapF (xs.drop i) acc f) K E) :
    acc.length ≤ 1000000 ∧ cW (f x) (fun y => match y with | some z => cW (mapF (xs.drop (i + 1)) (acc ++ [z]) f) K E | none => cW (mapF (xs.drop (i + 1)) acc f) K E) E := by
  rw [List.drop_eq_getElem?_toList_append, hx] at h
  obtain ⟨z, h⟩ := cW_grd h
  refine ⟨z, cW_call h (fun y z => ?_) fun _ z => z⟩
  cases y with
  | none => exact z
  | some w => exact z
theorem cW_mapF0 {K : List α → Prop} {xs : List β} {acc : List α} {n : Nat} {f : β → Rx (Option α)} (hn : n = xs.length) (h : cW (mapF (xs.drop n) acc f) K E) : K acc := by
  subst hn
  rw [List.drop_length] at h
  exact cW_ok h
end
/-- the numbers of a range -/
def rng (lo : Int) (n : Nat) : List Int := (List.range n).map fun (j : Nat) => lo + (j : Int)
theorem rng_get {lo : Int} {n i : Nat} (h : i < n) : (rng lo n)[i]? = some (lo + (i : Int)) := by
  unfold rng
  rw [List.getElem?_map, List.getElem?_range h] <;> rfl
theorem rng_len (lo : Int) (n : Nat) : (rng lo n).length = n := by
  unfold rng
  rw [List.length_map, List.length_range]

def rngD (lo : Int) (n : Nat) : List Int := (List.range n).map fun (j : Nat) => lo + (j : Int) * (-1)
theorem rngD_get {lo : Int} {n i : Nat} (h : i < n) : (rngD lo n)[i]? = some (lo + (i : Int) * (-1)) := by
  unfold rngD
  rw [List.getElem?_map, List.getElem?_range h] <;> rfl
theorem rngD_len (lo : Int) (n : Nat) : (rngD lo n).length = n := by
  unfold rngD
  rw [List.length_map, List.length_range]

/-! ### calls that may raise -/
/-- what a call with n values and keywords ks gives the parameters -/
structure Bnd (K : PySem.W.Frag) (fd : FuncData) (ps : List Str) (n : Nat) (ks : List Str) (g : List V → List V → List V) : Prop where
  to : ∀ (s : Shared) (us ws : List Value) (vs zs : List V), K.In s.heap → vs.length = n → zs.length = ks.length → Vals vs us → Vals zs ws → ∃ vv : List Value, BindsTo s fd ⟨us, ks.zip ws⟩ (ps.zip vv) ∧ Vals (g vs zs) vv
theorem Bnd.of_kbn {K : PySem.W.Frag} {fd : FuncData} {ps ks : List Str} {n : Nat} {g : List Value → List Value → List Value} {gV : List V → List V → List V} (b : KBn K fd ps n ks g gV) : Bnd K fd ps n ks gV :=
  ⟨fun s us ws vs zs X l1 l2 r rz => ⟨g us ws, b.to s us ws X (r.length.symm.trans l1) (rz.length.symm.trans l2), b.rel r rz⟩⟩
theorem Bnd.all {K : PySem.W.Frag} {fd : FuncData} {ps ks : List Str} {n : Nat} {g : List V → List V → List V} (h : ∀ (us ws : List Value) (vs zs : List V), vs.length = n → zs.length = ks.length → Vals vs us → Vals zs ws →
    ∃ vv : List Value, bindArgs fd ⟨us, ks.zip ws⟩ = pure (ps.zip vv) ∧ Vals (g vs zs) vv) : Bnd K fd ps n ks g :=
  ⟨fun s us ws vs zs _ l1 l2 r rz => by
    obtain ⟨vv, e, q⟩ := h us ws vs zs l1 l2 r rz
    exact ⟨vv, BindsTo.of_eq e, q⟩⟩
abbrev Pat := Nat × List Str × (List V → List V → List V)
def Bnd1 (K : PySem.W.Frag) (fd : FuncData) (ps : List Str) (p : Pat) : Prop := Bnd K fd ps p.1 p.2.1 p.2.2
section
variable {P : Program} {w : World} {K : PySem.W.Frag} {mg : Str → Option Value} {base : Heap}
/-- a def of the top, with the ways it is called -/
structure DefX (K : PySem.W.Frag) (mg : Str → Option Value) (x : Str) (st : Stmt) (ps : List Str) (pats : List Pat) : Prop where
  ex : ∃ (f : Addr) (fd : FuncData) (dvs : List V) (kws : List (Str × V)), FunD K x x (defArgs st) (defBody st) (defScope st) dvs kws f fd ∧ mg x = some (.ref f) ∧ ∀ p ∈ pats, Bnd1 K fd ps p
structure CalX (P : Program) (w : World) (K : PySem.W.Frag) (mg : Str → Option Value) (base : Heap) (k : Nat) (x : Str) (sp : Sp) (pats : List Pat) : Prop where
  ex : ∃ (f : Addr) (fd : FuncData) (ps : List Str), FnG P w K mg base (L2.CX P w) k f fd ps sp ∧ mg x = some (.ref f) ∧ PySem.W.keepIn K (.ref f) = true ∧ ∀ p ∈ pats, Bnd1 K fd ps p
abbrev BodyX (P : Program) (w : World) (K : PySem.W.Frag) (mg : Str → Option Value) (base : Heap) (x : Str) (st : Stmt) (N : List Str) (k : Nat) (sp : Sp) : Prop :=
  ∀ (f : Addr) (cdv : Value) (A : Around) (outer : List Env) (s : Shared) (H : Hp) (vs : List V) (Q : VK) (E : XK), RoomG k (A.deeper (envOfC x (defScope st) s.heap.objs.size f cdv)) → sp vs H Q E →
    ∃ t, PSs (cxOf (L2.CX P w) P w K mg base N x (defScope st) f cdv A outer s H E) (defBody st) t ∧ t { nx := fun _ H' => Q .non H', rt := Q } (start N vs) H
theorem DefX.ok {x : Str} {st : Stmt} {N ps : List Str} {pats : List Pat} {k : Nat} {sp : Sp} (D : DefX K mg x st ps pats) (S : FnScope N ps (defScope st)) (len : ∀ vs H Q E, sp vs H Q E → vs.length = ps.length)
    (hbody : BodyX P w K mg base x st N k sp) : CalX P w K mg base (k + 1) x sp pats := by
  obtain ⟨f, fd, dvs, kws, F, hm, b⟩ := D.ex
  exact ⟨f, fd, ps, FnG.body F S len (fun cdv A outer s H vs Q E hr h => hbody f cdv A outer s H vs Q E hr h), hm, F.kp, b⟩
end
section
variable {X : Cx} {k j n : Nat} {f : Addr} {fd : FuncData} {ps ks : List Str} {g : List V → List V → List V} {sp : Sp} {x : Str} {pos p : Pos} {e : Expr} {es : List Expr} {kws : List Keyword} {t tk : TA} {W : WX}
theorem run_X {pins : List (Addr × Obj)} {σ : L2.St} {H : Hp} {s : Shared} {Q : VK} {us ws : List Value} {vs zs : List V} (F : FnG X.prog X.w X.K X.mg X.base (L2.CX X.prog X.w) k f fd ps sp) (hr : RoomG k X.A) (hb : Bnd X.K fd ps n ks g) (tkW : Takes X W)
    (I : Inv X pins σ H s) (r : Vals vs us) (rz : Vals zs ws) (l1 : vs.length = n) (l2 : zs.length = ks.length) (h : sp (g vs zs) H Q (WE W σ)) :
    wpAny (model X.prog X.w) X.A (call (.ref f) us (ks.zip ws)) (EP X pins σ Q) X.xe s := by
  obtain ⟨vv, b, r2⟩ := hb.to s us ws vs zs I.kIn l1 l2 r rz
  refine wpAny_call (codeAny_mono (F.run X.A X.stack s H ⟨us, ks.zip ws⟩ vv (g vs zs) Q (WE W σ) hr I.env0 b r2 h) fun rr s' hq => ?_)
  cases rr with
  | error er => exact passAt tkW σ pins H s er s' I hq
  | ok fl =>
    cases fl with
    | ret u => exact I.after hq
    | next => exact hq.elim
    | brk => exact hq.elim
    | cont => exact hq.elim
/-- f(e, .., k = v, ..) -/
def tCallX (n m : Nat) (sp : Sp) (g : List V → List V → List V) (W : WX) (t tk : TA) : TE := fun σ H Q => t σ H fun vs H1 => tk σ H1 fun zs H2 => vs.length = n ∧ zs.length = m ∧ sp (g vs zs) H2 Q (WE W σ)
theorem vx_callX {pats : List Pat} (c : CalX X.prog X.w X.K X.mg X.base k x sp pats) (pt : Pat) (hpt : pt ∈ pats) (hr : RoomG j X.A) (hk : k ≤ j) (tkW : Takes X W) (hg : Gl X x) (ha : PA X (e :: es) t) (hkw : PK X kws tk)
    (hall : (backToKw pos (keywordEach kws X.env)).all (·.1.isSome) = true := by rfl) (hks : (backToKw pos (keywordEach kws X.env)).filterMap (·.1) = pt.2.1 := by rfl)
    (hdb : (x == ("__debug__" : Str)) = false := by decide) (he : starEach (e :: es) X.env = (false, eval e X.env) :: starEach es X.env := by rfl)
    (hpl : ((backTo pos (starEach (e :: es) X.env)).any (·.1) || (backToKw pos (keywordEach kws X.env)).any (·.1.isNone)) = false := by rfl) :
    PE X (.Call (.Name x p) (e :: es) kws pos) (tCallX pt.1 pt.2.1.length sp pt.2.2 W t tk) := by
  obtain ⟨f, fd, ps, F, hm, kp, b⟩ := c.ex
  refine ⟨fun pins s σ H Q I h => ?_⟩
  refine wpAny_Call_Name_kw (ld_glob I hg hm ?_ hdb)
  refine PySem.W.callWith_KW (h₀ := X.base) I.ok.mod.kin kp hall (thn (ha.run pos pins s σ H _ I h) fun us s1 ⟨vs, H1, I1, r, q⟩ => ?_) hpl he
  refine thn (hkw.run pos pins s1 σ H1 _ I1 q) fun ws s2 ⟨zs, H2, I2, rz, l1, l2, q2⟩ => ⟨I2.kIn, ?_⟩
  rw [hks]
  exact run_X F (hr.low hk) (b pt hpt) tkW I2 r rz l1 l2 q2
theorem vx_callX0 {pats : List Pat} (c : CalX X.prog X.w X.K X.mg X.base k x sp pats) (pt : Pat) (hpt : pt ∈ pats) (hr : RoomG j X.A) (hk : k ≤ j) (tkW : Takes X W) (hg : Gl X x) (hks : pt.2.1 = [] := by rfl)
    (hdb : (x == ("__debug__" : Str)) = false := by decide) : PE X (.Call (.Name x p) [] [] pos) (tCallX pt.1 pt.2.1.length sp pt.2.2 W tNil tNil) := by
  obtain ⟨f, fd, ps, F, hm, kp, b⟩ := c.ex
  refine ⟨fun pins s σ H Q I h => ?_⟩
  refine wpAny_Call_Name_kw (ld_glob I hg hm ?_ hdb)
  obtain ⟨l1, l2, q2⟩ := h
  have hz := run_X (us := []) (ws := []) F (hr.low hk) (b pt hpt) tkW I .nil .nil l1 l2 q2
  rw [hks] at hz
  exact PySem.W.callWith_K0 I.kIn kp hz
end
/-! ### borrowed things -/
theorem Sep.bM {M : List Addr} {H0 G0 G H : Hp} {O : List (Addr)} (S : Sep M H0 G0 G H O) : Same (hideL M H0) H := fun b o e => by
  by_cases h : b ∈ M
  · rw [hideL_in h] at e
    cases e
  · rw [hideL_out h] at e
    exact S.base b o e h
theorem b_ne {M : List Addr} {H0 G0 G H : Hp} {O : List Addr} {a b : Addr} {o : HO} (h : (hideL M H0) a = some o) (S : Sep M H0 G0 G H O) (hb : b ∈ O) : a ≠ b := fun z => by
  subst z
  rcases (S.ow a hb).2.2 with q | q
  · rw [hideL_in q] at h
    cases h
  · by_cases hM : a ∈ M
    · rw [hideL_in hM] at h
      cases h
    · rw [hideL_out hM, q] at h
      cases h
theorem hide0 {H : Hp} : hideL [] H = H := by
  funext b
  unfold hideL
  rw [if_neg List.not_mem_nil]
theorem hide_nil {H : Hp} {a : Addr} {o : HO} (h : H a = some o) : (hideL [] H) a = some o := by
  rw [hide0]
  exact h
theorem Rp.hide_nil {H : Hp} {v : V} {d : PyData} (h : Rp H v d) : Rp (hideL [] H) v d := by
  rw [hide0]
  exact h
theorem Sep.startM {M : List Addr} {G H : Hp} (e : Same G H) (hM : ∀ a ∈ M, H a ≠ none) (hG : ∀ a ∈ M, G a = none) : Sep M H G G H M :=
  ⟨fun _ _ e _ => e, hM, e, Same.refl _, fun _ _ e => e, fun a ha => ⟨hG a ha, hM a ha, .inl ha⟩⟩
theorem Sep.gno {M : List Addr} {H0 G0 G H : Hp} {O L : List Addr} (S : Sep M H0 G0 G H O) (h : ∀ a ∈ L, a ∈ O) : ∀ a ∈ L, G a = none := fun a ha => (S.ow a (h a ha)).1
theorem RpAll.ixD {α : Type} [Inhabited α] {f : α → PyData} {H : Hp} {vs : List V} {xs : List α} {k : Int} (r : RpAll H vs (xs.map f)) (h : -(xs.length : Int) ≤ k ∧ k < xs.length) : ∃ v, atI vs k = some v ∧ Rp H v (f (itD xs k)) := by
  obtain ⟨v, x, h1, h2, h3⟩ := RpAll.ix r h
  refine ⟨v, h1, ?_⟩
  unfold itD
  rw [h2]
  exact h3
theorem tru_all {α : Type} [DecidableEq α] {f : α → PyData} {H : Hp} {vs : List V} {xs : List α} (r : RpAll H vs (xs.map f)) : (!decide (xs = [])) = !vs.isEmpty := by
  have h := r.len
  rw [List.length_map] at h
  cases xs <;> cases vs <;> simp_all
theorem ix_nn {α : Type} {xs : List α} {k : Int} (h0 : 0 ≤ k) (h1 : k < xs.length) : -(xs.length : Int) ≤ k ∧ k < xs.length := ⟨by omega, h1⟩
theorem all_nilQ {α : Type} {P : α → Prop} : ∀ x ∈ ([] : List α), P x := fun x h => by cases h
theorem all_consQ {α : Type} {P : α → Prop} {a : α} {l : List α} (h : P a) (t : ∀ x ∈ l, P x) : ∀ x ∈ a :: l, P x := fun x hx => by
  rcases List.mem_cons.mp hx with rfl | hx
  · exact h
  · exact t x hx
theorem mem_one {a b : Nat} (h : a ∈ [b]) : a = b := by simpa using h
theorem mem_cons2 {a b : Nat} {l : List Nat} (h : a ∈ b :: l) : a = b ∨ a ∈ l := List.mem_cons.mp h
theorem len0 {α : Type} {l : List α} (h : l.length = 0) : l = [] := List.length_eq_zero_iff.mp h
theorem len1 {α : Type} {l : List α} (h : l.length = 1) : ∃ a, l = [a] := List.length_eq_one_iff.mp h
theorem len_s {α : Type} {l : List α} {n : Nat} (h : l.length = n + 1) : ∃ a r, l = a :: r ∧ r.length = n := by
  cases l with
  | nil => cases h
  | cons a r => exact ⟨a, r, rfl, Nat.succ.inj h⟩
theorem len2 {α : Type} {l : List α} (h : l.length = 2) : ∃ a b, l = [a, b] := by
  obtain ⟨a, r, rfl, h2⟩ := len_s h
  obtain ⟨b, rfl⟩ := len1 h2
  exact ⟨a, b, rfl⟩
theorem len3 {α : Type} {l : List α} (h : l.length = 3) : ∃ a b c, l = [a, b, c] := by
  obtain ⟨a, r, rfl, h2⟩ := len_s h
  obtain ⟨b, c, rfl⟩ := len2 h2
  exact ⟨a, b, c, rfl⟩
theorem len4 {α : Type} {l : List α} (h : l.length = 4) : ∃ a b c d, l = [a, b, c, d] := by
  obtain ⟨a, r, rfl, h2⟩ := len_s h
  obtain ⟨b, c, d, rfl⟩ := len3 h2
  exact ⟨a, b, c, d, rfl⟩
theorem len5 {α : Type} {l : List α} (h : l.length = 5) : ∃ a b c d e, l = [a, b, c, d, e] := by
  obtain ⟨a, r, rfl, h2⟩ := len_s h
  obtain ⟨b, c, d, e, rfl⟩ := len4 h2
  exact ⟨a, b, c, d, e, rfl⟩
theorem len6 {α : Type} {l : List α} (h : l.length = 6) : ∃ a b c d e f, l = [a, b, c, d, e, f] := by
  obtain ⟨a, r, rfl, h2⟩ := len_s h
  obtain ⟨b, c, d, e, f, rfl⟩ := len5 h2
  exact ⟨a, b, c, d, e, f, rfl⟩
theorem len7 {α : Type} {l : List α} (h : l.length = 7) : ∃ a b c d e f g, l = [a, b, c, d, e, f, g] := by
  obtain ⟨a, r, rfl, h2⟩ := len_s h
  obtain ⟨b, c, d, e, f, g, rfl⟩ := len6 h2
  exact ⟨a, b, c, d, e, f, g, rfl⟩
def rLenTK (K : PySem.W.Frag) : List V → Hp → VK → Prop := fun xs H Q => ∃ (p : Addr) (vs : List V) (n : Nat), xs = [.ref p] ∧ SqT K H p vs ∧ vs.length = n ∧ Q (.int (n : Int)) H
theorem call_lenTK {X : Cx} {K : PySem.W.Frag} (hK : X.K = K := by rfl) : CallR X (.builtin "len") (rLenTK K) := by
  subst hK
  intro pins s σ H xs us Q I r h
  obtain ⟨p, vs, n, rfl, hs, hn, q⟩ := h
  exact call_len_seq pins s σ H _ us Q I r ⟨p, _, rfl, Or.inr hs, by rw [hn]; exact q⟩
theorem exm_mk {K : PySem.W.Frag} {S C : Addr} (h1 : PySem.W.subIn K (.ref C) (.type "BaseException") = some true) (h2 : PySem.W.isClsIn K C = true) (h3 : PySem.W.typeIn K (.ref C) = some (.type "type")) (h4 : PySem.W.subIn K (.ref S) (.ref C) = some true) :
    PySem.W.exmOne K (.ref S) (.ref C) = some true := by
  unfold PySem.W.isClsIn at h2
  unfold PySem.W.exmOne
  unfold PySem.W.kitCls
  simp only [h1, h2, h3, h4, beq_self_eq_true, Bool.and_self, if_true]
theorem kit_mk {K : PySem.W.Frag} {S C : Addr} (h2 : PySem.W.isClsIn K C = true) (h3 : PySem.W.typeIn K (.ref C) = some (.type "type")) (h4 : PySem.W.subIn K (.ref S) (.ref C) = some true) :
    PySem.W.kitOne K (.ref S) (.ref C) = some true := by
  unfold PySem.W.isClsIn at h2
  unfold PySem.W.kitOne
  split
  · rfl
  · unfold PySem.W.kitCls
    simp only [h2, h3, h4, beq_self_eq_true, Bool.and_self, if_true]
/-- isinstance(e, C) of the exception in hand -/
def rIsX (K : PySem.W.Frag) (a : Addr) (cls : Value) (d : Option Addr) : List V → Hp → VK → Prop := fun xs H Q => ∃ (D C : Addr) (b : Bool), cls = .ref D ∧ d = none ∧ ExcC K D ∧ xs = [.ref a, .ref C] ∧ PySem.W.kitOne K (.ref D) (.ref C) = some b ∧ Q (.bl b) H
theorem call_isX {X : Cx} {K : PySem.W.Frag} {a : Addr} {cls : Value} {d : Option Addr} {oe : Obj} {pn : List (Addr × Obj)} (hz : Zc cls d oe) (hf : ∃ vs, oe.data = .fields vs) (hK : X.K = K := by rfl) : CallR (X.suite a ((a, oe) :: pn)) (.builtin "isinstance") (rIsX K a cls d) := by
  subst hK
  intro pins s σ H xs us Q I r h
  obtain ⟨D, C, b, rfl, rfl, c, rfl, e, q⟩ := h
  exact call_isE c hz hf pins s σ H _ us Q I r ⟨_, _, b, rfl, fun u z => z, e, q⟩
/-! ### unpacking a list -/
section
variable {X : Cx} {K : PySem.W.Frag} {pos : Pos}
theorem pg_seqK {es : List Expr} {k : Nat} {t : TGs} {n : Nat} (h : PGs X es t) (hc : X.calm = true := by rfl) (hK : X.K = K := by rfl)
    (hn : (assignEach es X.env).length = n := by rfl) (hst : (assignEach es X.env).findIdx? (·.1) = none := by rfl) : PG X (.Tuple es k pos) (gLst K n t) := hK ▸ pg_lst hc h hn hst
end
theorem SqL.cast {K : PySem.W.Frag} {H : Hp} {a : Addr} {xs ys : List V} (h : SqL K H a xs) (e : xs = ys) : SqL K H a ys := e ▸ h
section
variable {α : Type} [Inhabited α] {f : α → V}
theorem unp2 {xs : List α} (h : xs.length = 2) : xs.map f = [f (itD xs 0), f (itD xs 1)] := by
  obtain ⟨a, b, rfl⟩ := len2 h
  rfl
theorem unp3 {xs : List α} (h : xs.length = 3) : xs.map f = [f (itD xs 0), f (itD xs 1), f (itD xs 2)] := by
  obtain ⟨a, b, c, rfl⟩ := len3 h
  rfl
theorem unp4 {xs : List α} (h : xs.length = 4) : xs.map f = [f (itD xs 0), f (itD xs 1), f (itD xs 2), f (itD xs 3)] := by
  obtain ⟨a, b, c, d, rfl⟩ := len4 h
  rfl
theorem unp6 {xs : List α} (h : xs.length = 6) : xs.map f = [f (itD xs 0), f (itD xs 1), f (itD xs 2), f (itD xs 3), f (itD xs 4), f (itD xs 5)] := by
  obtain ⟨a, b, c, d, e, g, rfl⟩ := len6 h
  rfl
theorem unp8 {xs : List α} (h : xs.length = 8) : xs.map f = [f (itD xs 0), f (itD xs 1), f (itD xs 2), f (itD xs 3), f (itD xs 4), f (itD xs 5), f (itD xs 6), f (itD xs 7)] := by
  obtain ⟨a, r, rfl, h2⟩ := len_s h
  obtain ⟨b, c, d, e, g, i, j, rfl⟩ := len7 h2
  rfl
end
/-! ### classes -/
section
variable {P : Program} {w : World} {K : PySem.W.Frag} {mg : Str → Option Value} {base : Heap}
structure MethX (K : PySem.W.Frag) (C : Addr) (q m : Str) (st : Stmt) (ps : List Str) (pats : List Pat) : Prop where
  ex : ∃ (f : Addr) (fd : FuncData) (dvs : List V) (kws : List (Str × V)), FunD K m q (defArgs st) (defBody st) (defScope st) dvs kws f fd ∧ Meth K C m f ∧ ∀ p ∈ pats, Bnd1 K fd ps p
structure InitX (K : PySem.W.Frag) (mg : Str → Option Value) (C : Addr) (cn q : Str) (st : Stmt) (ps : List Str) (pats : List Pat) : Prop where
  ex : ∃ (f : Addr) (fd : FuncData) (dvs : List V) (kws : List (Str × V)), FunD K "__init__" q (defArgs st) (defBody st) (defScope st) dvs kws f fd ∧ Mk K C f ∧ mg cn = some (.ref C) ∧ ∀ p ∈ pats, Bnd1 K fd ps p
structure PropX (K : PySem.W.Frag) (C : Addr) (q m : Str) (st : Stmt) (ps : List Str) (pats : List Pat) : Prop where
  ex : ∃ (r f : Addr) (fd : FuncData) (dvs : List V) (kws : List (Str × V)), FunD K m q (defArgs st) (defBody st) (defScope st) dvs kws f fd ∧ PropOf K C m r f ∧ Binds K fd ps []
structure MetX (P : Program) (w : World) (K : PySem.W.Frag) (mg : Str → Option Value) (base : Heap) (k : Nat) (C : Addr) (m : Str) (sp : Sp) (pats : List Pat) : Prop where
  ex : ∃ (f : Addr) (fd : FuncData) (ps : List Str), Cls K C ∧ Meth K C m f ∧ FnG P w K mg base (L2.CX P w) k f fd ps sp ∧ ∀ p ∈ pats, Bnd1 K fd ps p
structure PropY (P : Program) (w : World) (K : PySem.W.Frag) (mg : Str → Option Value) (base : Heap) (k : Nat) (C : Addr) (m : Str) (sp : Sp) (pats : List Pat) : Prop where
  ex : ∃ (q f : Addr) (fd : FuncData) (ps : List Str), Cls K C ∧ PropOf K C m q f ∧ FnG P w K mg base (L2.CX P w) k f fd ps sp ∧ Binds K fd ps []
structure MakX (P : Program) (w : World) (K : PySem.W.Frag) (mg : Str → Option Value) (base : Heap) (k : Nat) (cn : Str) (C : Addr) (sp : Sp) (pats : List Pat) : Prop where
  ex : ∃ (f : Addr) (fd : FuncData) (ps : List Str), Mk K C f ∧ FnG P w K mg base (L2.CX P w) k f fd ps sp ∧ mg cn = some (.ref C) ∧ ∀ p ∈ pats, Bnd1 K fd ps p
theorem MethX.ok {C : Addr} {q m : Str} {st : Stmt} {N ps : List Str} {pats : List Pat} {k : Nat} {sp : Sp} (D : MethX K C q m st ps pats) (c : Cls K C) (S : FnScope N ps (defScope st)) (len : ∀ vs H Q E, sp vs H Q E → vs.length = ps.length)
    (hbody : BodyX P w K mg base q st N k sp) : MetX P w K mg base (k + 1) C m sp pats := by
  obtain ⟨f, fd, dvs, kws, F, me, b⟩ := D.ex
  exact ⟨f, fd, ps, c, me, FnG.body F S len (fun cdv A outer s H vs Q E hr h => hbody f cdv A outer s H vs Q E hr h), b⟩
theorem PropX.ok {C : Addr} {q m : Str} {st : Stmt} {N ps : List Str} {pats : List Pat} {k : Nat} {sp : Sp} (D : PropX K C q m st ps pats) (c : Cls K C) (S : FnScope N ps (defScope st)) (len : ∀ vs H Q E, sp vs H Q E → vs.length = ps.length)
    (hbody : BodyX P w K mg base q st N k sp) : PropY P w K mg base (k + 1) C m sp pats := by
  obtain ⟨r, f, fd, dvs, kws, F, me, b⟩ := D.ex
  exact ⟨r, f, fd, ps, c, me, FnG.body F S len (fun cdv A outer s H vs Q E hr h => hbody f cdv A outer s H vs Q E hr h), b⟩
theorem InitX.ok {C : Addr} {cn q : Str} {st : Stmt} {N ps : List Str} {pats : List Pat} {k : Nat} {sp : Sp} (D : InitX K mg C cn q st ps pats) (S : FnScope N ps (defScope st)) (len : ∀ vs H Q E, sp vs H Q E → vs.length = ps.length)
    (hbody : BodyX P w K mg base q st N k sp) : MakX P w K mg base (k + 1) cn C sp pats := by
  obtain ⟨f, fd, dvs, kws, F, me, hm, b⟩ := D.ex
  exact ⟨f, fd, ps, me, FnG.body F S len (fun cdv A outer s H vs Q E hr h => hbody f cdv A outer s H vs Q E hr h), hm, b⟩
end
theorem cW_callN {α β : Type} {m : Rx β} {f : β → Rx α} {K : α → Prop} {E : Nat → Prop} {K2 : β → Prop} {E2 : Nat → Prop} (h : cW ((noEr m).bind f) K E) (ho : ∀ v, cW (f v) K E → K2 v) (_ : True) : cW m K2 E2 := by
  cases m with
  | ok a => exact cW_mk (ho a h)
  | er e => exact cW_bad (α := α) h
  | bad => exact cW_bad (α := α) h
section
variable {X : Cx} {k j n : Nat} {f C : Addr} {fd : FuncData} {ps ks : List Str} {g : List V → List V → List V} {sp : Sp} {x m : Str} {pos p apos : Pos} {e o : Expr} {es : List Expr} {kws : List Keyword} {ta : TE} {t tk : TA} {W : WX}
theorem run_mkX {pins : List (Addr × Obj)} {σ : L2.St} {H : Hp} {s : Shared} {Q : VK} {us ws : List Value} {vs zs : List V} (M : Mk X.K C f) (F : FnG X.prog X.w X.K X.mg X.base (L2.CX X.prog X.w) k f fd ps sp) (hr : RoomG (k + 1) X.A) (hb : Bnd X.K fd ps n ks g) (tkW : Takes X W)
    (I : Inv X pins σ H s) (r : Vals vs us) (rz : Vals zs ws) (l1 : vs.length + 1 = n) (l2 : zs.length = ks.length)
    (h : ∀ x dx, H x = none → H dx = none → dx ≠ x → sp (g (.ref x :: vs) zs) (upd (upd H dx (.own x)) x (.ins C dx [])) (fun v H2 => v = .non ∧ Q (.ref x) H2) (WE W σ)) :
    wpAny (model X.prog X.w) X.A (call (.ref C) us (ks.zip ws)) (EP X pins σ Q) X.xe s := by
  have hq := h (s.heap.objs.size + 1) s.heap.objs.size (I.hok.fresh (Nat.le_succ _)) (I.hok.fresh (Nat.le_refl _)) (Nat.ne_of_lt (Nat.lt_succ_self _))
  have I2 := Inv.made (C := C) I
  have r1 : Vals (V.ref (s.heap.objs.size + 1) :: vs) (Value.ref (s.heap.objs.size + 1) :: us) := .cons rfl r
  obtain ⟨vv, b, r2⟩ := hb.to _ (Value.ref (s.heap.objs.size + 1) :: us) ws (V.ref (s.heap.objs.size + 1) :: vs) zs I2.kIn (by rw [List.length_cons, l1]) l2 r1 rz
  refine wpAny_call (make_map (f := f) I.kIn M.makes M.init (beq_iff_eq.mp M.fn) (codeAny_mono (F.run _ X.stack _ _ ⟨Value.ref (s.heap.objs.size + 1) :: us, ks.zip ws⟩ vv _ _ (WE W σ) (hr.made C us (ks.zip ws))
    (I2.env0.make C us (ks.zip ws)) b r2 hq) fun r s' hq' => ?_))
  cases r with
  | error e => exact passAt tkW σ pins _ _ e s' I2 hq'
  | ok fl =>
    cases fl with
    | ret u =>
      obtain ⟨v, H', I3, rv, ev, q3⟩ := I2.after hq'
      subst ev
      exact ⟨rv, ⟨V.ref (s.heap.objs.size + 1), H', I3, rfl, q3⟩⟩
    | next => exact False.elim hq'
    | brk => exact False.elim hq'
    | cont => exact False.elim hq'
/-- C(e, .., k = v, ..) -/
def tMakeX (C : Addr) (n m : Nat) (sp : Sp) (g : List V → List V → List V) (W : WX) (t tk : TA) : TE := fun σ H Q => t σ H fun vs H1 => tk σ H1 fun zs H2 => vs.length + 1 = n ∧ zs.length = m ∧ ∀ x dx, H2 x = none → H2 dx = none → dx ≠ x →
  sp (g (.ref x :: vs) zs) (upd (upd H2 dx (.own x)) x (.ins C dx [])) (fun v H3 => v = .non ∧ Q (.ref x) H3) (WE W σ)
theorem vx_makeX {pats : List Pat} (c : MakX X.prog X.w X.K X.mg X.base k x C sp pats) (pt : Pat) (hpt : pt ∈ pats) (hr : RoomG j X.A) (hk : k + 1 ≤ j) (tkW : Takes X W) (hg : Gl X x) (ha : PA X (e :: es) t) (hkw : PK X kws tk)
    (hall : (backToKw pos (keywordEach kws X.env)).all (·.1.isSome) = true := by rfl) (hks : (backToKw pos (keywordEach kws X.env)).filterMap (·.1) = pt.2.1 := by rfl) (hdb : (x == ("__debug__" : Str)) = false := by decide)
    (he : starEach (e :: es) X.env = (false, eval e X.env) :: starEach es X.env := by rfl) (hpl : ((backTo pos (starEach (e :: es) X.env)).any (·.1) || (backToKw pos (keywordEach kws X.env)).any (·.1.isNone)) = false := by rfl) :
    PE X (.Call (.Name x p) (e :: es) kws pos) (tMakeX C pt.1 pt.2.1.length sp pt.2.2 W t tk) := by
  obtain ⟨f, fd, ps, M, F, hm, b⟩ := c.ex
  refine ⟨fun pins s σ H Q I h => ?_⟩
  refine wpAny_Call_Name_kw (ld_glob I hg hm ?_ hdb)
  refine PySem.W.callWith_KW (h₀ := X.base) I.ok.mod.kin M.kp hall (thn (ha.run pos pins s σ H _ I h) fun us s1 ⟨vs, H1, I1, r, q⟩ => ?_) hpl he
  refine thn (hkw.run pos pins s1 σ H1 _ I1 q) fun ws s2 ⟨zs, H2, I2, rz, l1, l2, q2⟩ => ⟨I2.kIn, ?_⟩
  rw [hks]
  exact run_mkX M F (hr.low hk) (b pt hpt) tkW I2 r rz l1 l2 q2
theorem vx_makeX0 {pats : List Pat} (c : MakX X.prog X.w X.K X.mg X.base k x C sp pats) (pt : Pat) (hpt : pt ∈ pats) (hr : RoomG j X.A) (hk : k + 1 ≤ j) (tkW : Takes X W) (hg : Gl X x) (hks : pt.2.1 = [] := by rfl)
    (hdb : (x == ("__debug__" : Str)) = false := by decide) : PE X (.Call (.Name x p) [] [] pos) (tMakeX C pt.1 pt.2.1.length sp pt.2.2 W tNil tNil) := by
  obtain ⟨f, fd, ps, M, F, hm, b⟩ := c.ex
  refine ⟨fun pins s σ H Q I h => ?_⟩
  refine wpAny_Call_Name_kw (ld_glob I hg hm ?_ hdb)
  obtain ⟨l1, l2, q2⟩ := h
  have hz := run_mkX (us := []) (ws := []) M F (hr.low hk) (b pt hpt) tkW I .nil .nil l1 l2 q2
  rw [hks] at hz
  exact PySem.W.callWith_K0 I.kIn M.kp hz
/-- o.m(e, .., k = v, ..) -/
def tMethX (C : Addr) (m : Str) (n mm : Nat) (sp : Sp) (g : List V → List V → List V) (W : WX) (ta : TE) (t tk : TA) : TE := fun σ H Q => ta σ H fun x H1 => ∃ a dx fs, x = .ref a ∧ H1 a = some (.ins C dx fs) ∧ fs.lookup m = none ∧
  t σ H1 fun vs H2 => tk σ H2 fun zs H3 => (x :: vs).length = n ∧ zs.length = mm ∧ sp (g (x :: vs) zs) H3 Q (WE W σ)
theorem vx_methX {pats : List Pat} {pl : Sem Bool} (c : MetX X.prog X.w X.K X.mg X.base k C m sp pats) (pt : Pat) (hpt : pt ∈ pats) (hr : RoomG j X.A) (hk : k ≤ j) (tkW : Takes X W) (he : PE X o ta) (ha : PA X (e :: es) t) (hkw : PK X kws tk)
    (hall : (backToKw pos (keywordEach kws X.env)).all (·.1.isSome) = true := by rfl) (hks : (backToKw pos (keywordEach kws X.env)).filterMap (·.1) = pt.2.1 := by rfl)
    (hst : starEach (e :: es) X.env = (false, eval e X.env) :: starEach es X.env := by rfl) (hpl : ((backTo pos (starEach (e :: es) X.env)).any (·.1) || (backToKw pos (keywordEach kws X.env)).any (·.1.isNone)) = false := by rfl)
    (ht : eval (.Call (.Attribute o m apos) (e :: es) kws pos) X.env = (do
      let ov ← eval o X.env
      standAt apos.atName
      let (f, first) ← holding [ov] (getMethod ov m pl)
      callWith pos f first (backTo pos (starEach (e :: es) X.env)) (backToKw pos (keywordEach kws X.env))) := by rfl) :
    PE X (.Call (.Attribute o m apos) (e :: es) kws pos) (tMethX C m pt.1 pt.2.1.length sp pt.2.2 W ta t tk) := by
  obtain ⟨f, fd, ps, hc, hm, F, b⟩ := c.ex
  refine ⟨fun pins s σ H Q I h => ?_⟩
  refine PySem.W.methodCall_KW (pl := pl) (thn (he.run pins s σ H _ I h) fun u s1 ⟨x, H1, I1, rx, a, dx, fs, ex, ea, l, q⟩ => ?_) ht
  subst ex
  obtain rfl : u = Value.ref a := rx
  refine getmeth_ok I1 ea hc hm l ?_
  refine PySem.W.callWith_KW (first := [.ref a]) (h₀ := X.base) I.ok.mod.kin hm.kp hall (thn (ha.run pos pins s1 σ H1 _ I1 q) fun us s2 ⟨vs, H2, I2, r, q2⟩ => ?_) hpl hst
  refine thn (hkw.run pos pins s2 σ H2 _ I2 q2) fun ws s3 ⟨zs, H3, I3, rz, l1, l2, q3⟩ => ⟨I3.kIn, ?_⟩
  rw [hks]
  exact run_X (us := .ref a :: us) (vs := .ref a :: vs) F (hr.low hk) (b pt hpt) tkW I3 (.cons rfl r) rz l1 l2 q3
theorem vx_methX0 {pats : List Pat} {pl : Sem Bool} (c : MetX X.prog X.w X.K X.mg X.base k C m sp pats) (pt : Pat) (hpt : pt ∈ pats) (hr : RoomG j X.A) (hk : k ≤ j) (tkW : Takes X W) (he : PE X o ta) (hks : pt.2.1 = [] := by rfl)
    (ht : eval (.Call (.Attribute o m apos) [] [] pos) X.env = (do
      let ov ← eval o X.env
      standAt apos.atName
      let (f, first) ← holding [ov] (getMethod ov m pl)
      callWith pos f first (backTo pos (starEach [] X.env)) (backToKw pos (keywordEach [] X.env))) := by rfl) :
    PE X (.Call (.Attribute o m apos) [] [] pos) (tMethX C m pt.1 pt.2.1.length sp pt.2.2 W ta tNil tNil) := by
  obtain ⟨f, fd, ps, hc, hm, F, b⟩ := c.ex
  refine ⟨fun pins s σ H Q I h => ?_⟩
  refine PySem.W.methodCall_KW (pl := pl) (thn (he.run pins s σ H _ I h) fun u s1 ⟨x, H1, I1, rx, a, dx, fs, ex, ea, l, q⟩ => ?_) ht
  subst ex
  obtain rfl : u = Value.ref a := rx
  refine getmeth_ok I1 ea hc hm l ?_
  obtain ⟨l1, l2, q3⟩ := q
  have hz := run_X (us := [.ref a]) (vs := [.ref a]) (ws := []) F (hr.low hk) (b pt hpt) tkW I1 (.cons rfl .nil) .nil l1 l2 q3
  rw [hks] at hz
  exact PySem.W.callWith_K0 (first := [.ref a]) I1.kIn hm.kp hz
theorem vx_propX {pats : List Pat} (c : PropY X.prog X.w X.K X.mg X.base k C m sp pats) (hr : RoomG j X.A) (hk : k + 1 ≤ j) (he : PE X o ta) (hab : attributeBase o m X.env (eval o X.env) = eval o X.env := by rfl) : PE X (.Attribute o m pos) (tProp C sp [] E0 ta) := by
  obtain ⟨q, f, fd, ps, cls, prop, F, bind⟩ := c.ex
  constructor
  intro pins s σ H Q I h
  refine attr_of hab (thn (he.run pins s σ H _ I h) ?_)
  rintro u s1 ⟨x, H1, I1, rx, a, dx, fs, rfl, ea, prom⟩
  cases rx
  obtain ⟨mA, O, _⟩ := ins_get I1.hok ea
  obtain ⟨od, J, _⟩ := O.look
  obtain ⟨rest, rec_⟩ := prop.rec_
  have short : [Value.ref a].length = ps.length := (F.len _ _ _ _ prom).symm ▸ rfl
  have isCls : (PySem.W.clsIn X.K C).isSome = true := by
    obtain ⟨cd, e, _⟩ := PySem.W.any_some cls.hd
    rw [e]
    rfl
  refine PySem.W.get_bind I1.kIn J (PySem.W.plainGet_of (cls.get m)).1 (PySem.W.findObj_data isCls prop.at_ prop.get prop.tak) (PySem.W.plainGet_of (cls.get m)).2 (wpAny_call (PySem.W.prop_get (s := { s1 with toks := s1.toks + 1 }) I1.kIn rec_ ?_))
  have I2 := I1.tok (s1.toks + 1)
  refine codeAny_mono (F.run X.A.in1 X.stack _ H1 ⟨[.ref a], []⟩ [.ref a] [.ref a] Q E0 (hr.low hk).one I2.env0.in1 (by simpa using bind _ [.ref a] I2.kIn (by simpa using short)) (.cons rfl .nil) prom) ?_
  intro r s2 out
  cases r with
  | error er => exact (passL (X := X.nox) pins σ H1 _ er s2 (I2.wish _) out).elim
  | ok flow =>
    cases flow with
    | ret v =>
      obtain ⟨y, H2, I3, ry, qy⟩ := I2.after out
      have given := PySem.W.handedOut_of (handed_of ry)
      show wpAny _ _ (handedOut v) _ _ s2
      rw [given]
      exact wpAny_pure ⟨y, H2, I3, ry, qy⟩
    | next => exact out.elim
    | brk => exact out.elim
    | cont => exact out.elim
end
theorem Sep.news {M : List Addr} {H0 G0 G H H' : Hp} {O : List Addr} (S : Sep M H0 G0 G H O) (e : Same H H') (L : List Addr) (hL : ∀ a ∈ L, H a = none ∧ H' a ≠ none ∧ H0 a = none) : Sep M H0 G0 G H' (L ++ O) := by
  have S2 := S.same e
  refine ⟨S2.base, S2.pm, S2.sG, S2.g0, S2.gn, fun a ha => ?_⟩
  rcases List.mem_append.mp ha with h | h
  · obtain ⟨h1, h2, h3⟩ := hL a h
    exact ⟨S.gfree h1, h2, .inr h3⟩
  · exact S2.ow a h
theorem vv_chain {r r' : R2} {ta tb tc : TE} {σ : L2.St} {H : Hp} {x y z : V} {a b : Bool} (ha : Val ta σ H x) (hb : Val tb σ H y) (hc : Val tc σ H z) (h1 : ∀ Q : VK, Q (.bl a) H → r x y H Q) (h2 : ∀ Q : VK, Q (.bl b) H → r' y z H Q) :
    Val (tChain r r' ta tb tc) σ H (.bl (a && b)) := fun Q q => ha _ (hb _ (h1 _ ⟨a, rfl, by
  cases a with
  | true =>
    rw [if_pos rfl]
    exact hc _ (h2 _ q)
  | false =>
    rw [if_neg Bool.false_ne_true]
    exact q⟩))
/-! ### constants that are tuples, lists backwards, zip -/
theorem inV_ints (x : Int) : ∀ xs : List Int, inV (V.int x) (xs.map V.int) = decide (x ∈ xs)
  | [] => by simp [inV]
  | y :: r => by
    have h := inV_ints x r
    unfold inV at h ⊢
    rw [List.map_cons, List.any_cons, h]
    by_cases c : x = y
    · subst c
      simp [eqV]
    · simp [eqV, c, Ne.symm c]
theorem flat_ints : ∀ xs : List Int, (xs.map V.int).all flatV = true
  | [] => rfl
  | _ :: r => flat_ints r
def rInI (K : PySem.W.Frag) : R2 := fun x y H Q => ∃ (i : Int) (p : Addr) (xs : List Int), x = .int i ∧ y = .ref p ∧ (SqL K H p (xs.map V.int) ∨ SqT K H p (xs.map V.int)) ∧ Q (.bl (decide (i ∈ xs))) H
def rNotInI (K : PySem.W.Frag) : R2 := fun x y H Q => ∃ (i : Int) (p : Addr) (xs : List Int), x = .int i ∧ y = .ref p ∧ (SqL K H p (xs.map V.int) ∨ SqT K H p (xs.map V.int)) ∧ Q (.bl (!decide (i ∈ xs))) H
theorem op_inI {X : Cx} {K : PySem.W.Frag} (hK : X.K = K := by rfl) : OpR X (compareOp .In) (rInI K) := by
  subst hK
  intro pins s σ H x y v u Q I rx ry h
  obtain ⟨i, p, xs, rfl, rfl, hs, q⟩ := h
  refine op_in_seq pins s σ H _ _ v u Q I rx ry ⟨p, _, rfl, hs, rfl, flat_ints xs, ?_⟩
  rw [if_neg Bool.false_ne_true, inV_ints]
  exact q
theorem op_notInI {X : Cx} {K : PySem.W.Frag} (hK : X.K = K := by rfl) : OpR X (compareOp .NotIn) (rNotInI K) := by
  subst hK
  intro pins s σ H x y v u Q I rx ry h
  obtain ⟨i, p, xs, rfl, rfl, hs, q⟩ := h
  refine op_notIn_seq pins s σ H _ _ v u Q I rx ry ⟨p, _, rfl, hs, rfl, flat_ints xs, ?_⟩
  rw [if_pos rfl, inV_ints]
  exact q
theorem pe_revLK {X : Cx} {K : PySem.W.Frag} {e : Expr} {te : TE} {k : Nat} {p1 p2 p3 pos : Pos} (he : PE X e te) (hK : X.K = K := by rfl) : PE X (.Subscript e (.Slice none none (some (.UnaryOp .USub (.Constant (.int 1) k p1) p2)) p3) pos) (tRevL K te) := hK ▸ pe_revL he
theorem rev_map {α : Type} {f : α → V} {xs : List α} {H : Hp} {p : Addr} (h : H p = some (.lst (xs.map f).reverse)) : H p = some (.lst (xs.reverse.map f)) := by
  rw [List.map_reverse]
  exact h
theorem RpAll.rev {G : Hp} : ∀ {vs : List V} {ds : List PyData}, RpAll G vs ds → RpAll G vs.reverse ds.reverse
  | _, _, .nil => .nil
  | _, _, .cons h t => by
    rw [List.reverse_cons, List.reverse_cons]
    exact (RpAll.rev t).append (.one h)
theorem rev_all {α : Type} {f : α → PyData} {xs : List α} {G : Hp} {vs : List V} (a : RpAll G vs (xs.map f)) : RpAll G vs.reverse (xs.reverse.map f) := by
  rw [List.map_reverse]
  exact a.rev
theorem pi_zipK {X : Cx} {K : PySem.W.Frag} {e e2 : Expr} {ta : TA} {p pos tpos : Pos} {elts : List Expr} {kk : Nat} (hg : Gl X "zip") (hm : X.mg "zip" = none) (ha : PA X [e, e2] ta) (hK : X.K = K := by rfl)
    (hs : starEach [e, e2] X.env = (false, eval e X.env) :: starEach [e2] X.env := by rfl) (hpl : (backTo pos (starEach [e2] X.env)).any (·.1) = false := by rfl) :
    PI X (.Tuple elts kk tpos) (.Call (.Name "zip" p) [e, e2] [] pos) (RZ.iZipA K ta) := hK ▸ RZ.pi_zipA hg hm ha hs hpl
/-- a comprehension over zip of two lists of one length -/
theorem lc_zipL {K : PySem.W.Frag} {a b : Addr} {xs ys : List V} {g : TG} {tt : TT} {te : TE} {vs : List Nat} {σ : L2.St} {H1 : Hp} {D : Addr} {Qd : Hp → Prop} (hl : xs.length = ys.length) (Pv : Nat → Hp → Prop) (h0 : Pv 0 (upd H1 D (.lst []))) (hq : ∀ i H, i ≤ xs.length → Pv i H → SqL K H a xs ∧ SqL K H b ys)
    (hs : ∀ (i : Nat) (x y : V) (T : Addr) (H : Hp), xs[i]? = some x → ys[i]? = some y → H T = none → Pv i H → g (.ref T) (wipe σ vs) (upd H T (.tup [x, y])) fun σ2 H2 => wipe σ2 vs = wipe σ vs ∧ tt σ2 H2 fun b H3 =>
      if b = true then te σ2 H3 fun y H4 => ∃ acc, H4 D = some (.lst acc) ∧ acc.length < sizeLine ∧ Pv (i + 1) (upd H4 D (.lst (acc ++ [y]))) else Pv (i + 1) H3) (hd : ∀ H, Pv xs.length H → Qd H) :
    ∃ W : Nat → Nat → Hp → Prop, (∃ m, W 0 m (upd H1 D (.lst []))) ∧ ∀ i m H, W i m H →
      ((Itz K a b).stop i H ∧ Qd H) ∨ ((Itz K a b).go i H ∧ ∃ Nx : Hp → Prop, (∀ H', Nx H' → ∃ m', m' < m ∧ W (i + 1) m' H') ∧ ∀ x H', (Itz K a b).yld i H x H' → g x (wipe σ vs) H' fun σ2 H2 => wipe σ2 vs = wipe σ vs ∧ tt σ2 H2 fun b H3 =>
        if b = true then te σ2 H3 fun y H4 => ∃ acc, H4 D = some (.lst acc) ∧ acc.length < sizeLine ∧ Nx (upd H4 D (.lst (acc ++ [y]))) else Nx H3) := by
  refine ⟨fun i m H => m = xs.length - i ∧ i ≤ xs.length ∧ Pv i H, ⟨xs.length, by simp, Nat.zero_le _, h0⟩, ?_⟩
  rintro i m H ⟨rfl, hi, p⟩
  obtain ⟨qx, qy⟩ := hq i H hi p
  by_cases hlt : i < xs.length
  · have hlt2 : i < ys.length := by omega
    refine .inr ⟨⟨xs, ys, xs[i], ys[i], qx, qy, List.getElem?_eq_getElem hlt, List.getElem?_eq_getElem hlt2⟩, Pv (i + 1), fun H' p' => ⟨xs.length - (i + 1), by omega, rfl, hlt, p'⟩, fun v H' y => ?_⟩
    obtain ⟨T, x', y', rfl, hT, rfl, f1, f2⟩ := y
    exact hs i x' y' T H (f1 xs qx) (f2 ys qy) hT p
  · have e : i = xs.length := by omega
    subst e
    exact .inl ⟨⟨xs, ys, qx, qy, Or.inl (Nat.le_refl _)⟩, hd H p⟩
theorem zip_get {α β : Type} {xs : List α} {ys : List β} {i : Nat} {x : α} {y : β} (h1 : xs[i]? = some x) (h2 : ys[i]? = some y) : (xs.zip ys)[i]? = some (x, y) := by
  rw [List.getElem?_zip_eq_some]
  exact ⟨h1, h2⟩
theorem zip_len {α β : Type} {xs : List α} {ys : List β} {n : Nat} (h : xs.length = ys.length) (e : n = xs.length) : n = (xs.zip ys).length := by
  rw [List.length_zip, ← h, Nat.min_self]
  exact e
theorem zlen {α β : Type} {vs ws : List V} {xs : List α} {ys : List β} (a : vs.length = xs.length) (b : ws.length = ys.length) (h : xs.length = ys.length) : vs.length = ws.length := by rw [a, b, h]
section
variable {t : TT} {ta tb : TE} {σ : L2.St} {H : Hp}
theorem vv_ifP {p : Prop} [Decidable p] {a b : Int} (ht : Ans t σ H (decide p)) (hx : p → Val ta σ H (.int a)) (hy : ¬ p → Val tb σ H (.int b)) : Val (tIf t ta tb) σ H (.int (if p then a else b)) := by
  by_cases h : p
  · have := vv_if (p := p) (a := a) (b := a) ht (hx h) (tb := ta) (hx h)
    intro Q q
    refine ht _ ?_
    rw [decide_eq_true h, if_pos rfl]
    rw [if_pos h] at q
    exact hx h _ q
  · intro Q q
    refine ht _ ?_
    rw [decide_eq_false h, if_neg Bool.false_ne_true]
    rw [if_neg h] at q
    exact hy h _ q
theorem vv_ifQ {c : Bool} {a b : Int} (ht : Ans t σ H c) (hx : c = true → Val ta σ H (.int a)) (hy : c = false → Val tb σ H (.int b)) : Val (tIf t ta tb) σ H (.int (if c = true then a else b)) := by
  intro Q q
  refine ht _ ?_
  cases c with
  | true =>
    rw [if_pos rfl]
    rw [if_pos rfl] at q
    exact hx rfl _ q
  | false =>
    rw [if_neg Bool.false_ne_true]
    rw [if_neg Bool.false_ne_true] at q
    exact hy rfl _ q
end
theorem kit_mk0 {K : PySem.W.Frag} {S C : Addr} (h1 : (Value.ref S == Value.ref C) = false) (h2 : PySem.W.isClsIn K C = true) (h3 : PySem.W.typeIn K (.ref C) = some (.type "type")) (h4 : PySem.W.subIn K (.ref S) (.ref C) = some false) :
    PySem.W.kitOne K (.ref S) (.ref C) = some false := by
  unfold PySem.W.isClsIn at h2
  unfold PySem.W.kitOne
  rw [if_neg (by rw [h1]; exact Bool.false_ne_true)]
  unfold PySem.W.kitCls
  simp only [h2, h3, h4, beq_self_eq_true, Bool.and_self, if_true]
theorem vv_call2 {ta tb : TE} {σ : L2.St} {H : Hp} {x y z : V} {r : List V → Hp → VK → Prop} (ha : Val ta σ H x) (hb : Val tb σ H y) (hr : ∀ Q : VK, Q z H → r [x, y] H Q) : Val (tCB r (tCons ta (tCons tb tNil))) σ H z := fun Q q => ha _ (hb _ (hr Q q))
/-! ### lists of data that the caller owns; values that are a truth value or a number -/
theorem Sep.stepnew {M : List Addr} {H0 G0 G H H' : Hp} {O : List Addr} {p : Addr} {o : HO} (S : Sep M H0 G0 G H O) {G' : Hp} (e : Same H H') (eG : Same G G') (sG : Same G' H') (hn : ∀ b, H b ≠ none → G b = none → G' b = none) (_n : H p = none) (h : H' p = some o) (g : G' p = none) (hm : H0 p = none) : Sep M H0 G0 G' H' (p :: O) := by
  have S2 := S.step e eG sG hn
  refine ⟨S2.base, S2.pm, S2.sG, S2.g0, S2.gn, fun a ha => ?_⟩
  rcases List.mem_cons.mp ha with rfl | ha
  · exact ⟨g, (fun z => by rw [z] at h; cases h), .inr hm⟩
  · exact S2.ow a ha
inductive Bi where
  | b (x : Bool)
  | n (i : Int)
deriving DecidableEq
def biV : Bi → V
  | .b x => .bl x
  | .n i => .int i
def Bi.el {α : Type} (v : Bi) (f : Bool → α) (g : Int → α) : α :=
  match v with
  | .b x => f x
  | .n i => g i
theorem cW_elb {α : Type} {x : Bool} {f : Bool → Rx α} {g : Int → Rx α} {K : α → Prop} {E : Nat → Prop} (h : cW (Bi.el (.b x) f g) K E) : cW (f x) K E := h
theorem cW_eln {α : Type} {x : Int} {f : Bool → Rx α} {g : Int → Rx α} {K : α → Prop} {E : Nat → Prop} (h : cW (Bi.el (.n x) f g) K E) : cW (g x) K E := h
theorem rp_tup4 {α β γ δ : Type} {f : α → PyData} {g : β → PyData} {h : γ → PyData} {i : δ → PyData} {H : Hp} {v : V} {x : α × β × γ × δ} (r : Rp H v (encT4 f g h i x)) : ∃ a v1 v2 v3 v4, v = .ref a ∧ H a = some (.tup [v1, v2, v3, v4]) ∧ Rp H v1 (f x.1) ∧ Rp H v2 (g x.2.1) ∧ Rp H v3 (h x.2.2.1) ∧ Rp H v4 (i x.2.2.2) := by
  unfold encT4 at r
  cases r with
  | tup h1 h2 =>
    cases h2 with
    | cons a b =>
      cases b with
      | cons b c =>
        cases c with
        | cons c d =>
          cases d with
          | cons d e =>
            cases e
            exact ⟨_, _, _, _, _, rfl, h1, a, b, c, d⟩
theorem rp_mk4 {α β γ δ : Type} {f : α → PyData} {g : β → PyData} {h : γ → PyData} {i : δ → PyData} {H : Hp} {a : Addr} {v1 v2 v3 v4 : V} {x : α} {y : β} {z : γ} {w : δ} (h1 : H a = some (.tup [v1, v2, v3, v4])) (r1 : Rp H v1 (f x)) (r2 : Rp H v2 (g y)) (r3 : Rp H v3 (h z)) (r4 : Rp H v4 (i w)) : Rp H (.ref a) (encT4 f g h i (x, y, z, w)) := .tup h1 (.cons r1 (.cons r2 (.cons r3 (.cons r4 .nil))))
theorem Sep.b0M {M : List Addr} {H0 G0 G H : Hp} {O : List Addr} (S : Sep M H0 G0 G H O) (h : ∀ a ∈ M, H a = H0 a) : Same H0 H := fun b o e => by
  by_cases z : b ∈ M
  · rw [h b z]
    exact e
  · exact S.base b o e z
section
variable {X : Cx} {k j n : Nat} {f C : Addr} {fd : FuncData} {ps ks : List Str} {g : List V → List V → List V} {sp : Sp} {x m : Str} {pos p apos : Pos} {e o : Expr} {es : List Expr} {kws : List Keyword} {ta : TE} {t tk : TA} {W : WX}
/-- keywords alone -/
theorem vx_makeXK {pats : List Pat} (c : MakX X.prog X.w X.K X.mg X.base k x C sp pats) (pt : Pat) (hpt : pt ∈ pats) (hr : RoomG j X.A) (hk : k + 1 ≤ j) (tkW : Takes X W) (hg : Gl X x) (hkw : PK X kws tk)
    (hall : (backToKw pos (keywordEach kws X.env)).all (·.1.isSome) = true := by rfl) (hks : (backToKw pos (keywordEach kws X.env)).filterMap (·.1) = pt.2.1 := by rfl) (hdb : (x == ("__debug__" : Str)) = false := by decide)
    (hpl : ((backTo pos (starEach [] X.env)).any (·.1) || (backToKw pos (keywordEach kws X.env)).any (·.1.isNone)) = false := by rfl) :
    PE X (.Call (.Name x p) [] kws pos) (tMakeX C pt.1 pt.2.1.length sp pt.2.2 W tNil tk) := by
  obtain ⟨f, fd, ps, M, F, hm, b⟩ := c.ex
  refine ⟨fun pins s σ H Q I h => ?_⟩
  refine wpAny_Call_Name_kw (ld_glob I hg hm ?_ hdb)
  refine PySem.W.callWith_KW0 (h₀ := X.base) I.ok.mod.kin M.kp hall ?_ hpl
  refine thn (hkw.run pos pins s σ H _ I h) fun ws s2 ⟨zs, H2, I2, rz, l1, l2, q2⟩ => ⟨I2.kIn, ?_⟩
  rw [hks]
  exact run_mkX (us := []) (vs := []) M F (hr.low hk) (b pt hpt) tkW I2 .nil rz l1 l2 q2
theorem vx_callXK {pats : List Pat} (c : CalX X.prog X.w X.K X.mg X.base k x sp pats) (pt : Pat) (hpt : pt ∈ pats) (hr : RoomG j X.A) (hk : k ≤ j) (tkW : Takes X W) (hg : Gl X x) (hkw : PK X kws tk)
    (hall : (backToKw pos (keywordEach kws X.env)).all (·.1.isSome) = true := by rfl) (hks : (backToKw pos (keywordEach kws X.env)).filterMap (·.1) = pt.2.1 := by rfl) (hdb : (x == ("__debug__" : Str)) = false := by decide)
    (hpl : ((backTo pos (starEach [] X.env)).any (·.1) || (backToKw pos (keywordEach kws X.env)).any (·.1.isNone)) = false := by rfl) :
    PE X (.Call (.Name x p) [] kws pos) (tCallX pt.1 pt.2.1.length sp pt.2.2 W tNil tk) := by
  obtain ⟨f, fd, ps, F, hm, kp, b⟩ := c.ex
  refine ⟨fun pins s σ H Q I h => ?_⟩
  refine wpAny_Call_Name_kw (ld_glob I hg hm ?_ hdb)
  refine PySem.W.callWith_KW0 (h₀ := X.base) I.ok.mod.kin kp hall ?_ hpl
  refine thn (hkw.run pos pins s σ H _ I h) fun ws s2 ⟨zs, H2, I2, rz, l1, l2, q2⟩ => ⟨I2.kIn, ?_⟩
  rw [hks]
  exact run_X (us := []) (vs := []) F (hr.low hk) (b pt hpt) tkW I2 .nil rz l1 l2 q2
theorem vx_methXK {pats : List Pat} {pl : Sem Bool} (c : MetX X.prog X.w X.K X.mg X.base k C m sp pats) (pt : Pat) (hpt : pt ∈ pats) (hr : RoomG j X.A) (hk : k ≤ j) (tkW : Takes X W) (he : PE X o ta) (hkw : PK X kws tk)
    (hall : (backToKw pos (keywordEach kws X.env)).all (·.1.isSome) = true := by rfl) (hks : (backToKw pos (keywordEach kws X.env)).filterMap (·.1) = pt.2.1 := by rfl)
    (hpl : ((backTo pos (starEach [] X.env)).any (·.1) || (backToKw pos (keywordEach kws X.env)).any (·.1.isNone)) = false := by rfl)
    (ht : eval (.Call (.Attribute o m apos) [] kws pos) X.env = (do
      let ov ← eval o X.env
      standAt apos.atName
      let (f, first) ← holding [ov] (getMethod ov m pl)
      callWith pos f first (backTo pos (starEach [] X.env)) (backToKw pos (keywordEach kws X.env))) := by rfl) :
    PE X (.Call (.Attribute o m apos) [] kws pos) (tMethX C m pt.1 pt.2.1.length sp pt.2.2 W ta tNil tk) := by
  obtain ⟨f, fd, ps, hc, hm, F, b⟩ := c.ex
  refine ⟨fun pins s σ H Q I h => ?_⟩
  refine PySem.W.methodCall_KW (pl := pl) (thn (he.run pins s σ H _ I h) fun u s1 ⟨x, H1, I1, rx, a, dx, fs, ex, ea, l, q⟩ => ?_) ht
  subst ex
  obtain rfl : u = Value.ref a := rx
  refine getmeth_ok I1 ea hc hm l ?_
  refine PySem.W.callWith_KW0 (first := [.ref a]) (h₀ := X.base) I.ok.mod.kin hm.kp hall ?_ hpl
  refine thn (hkw.run pos pins s1 σ H1 _ I1 q) fun ws s3 ⟨zs, H3, I3, rz, l1, l2, q3⟩ => ⟨I3.kIn, ?_⟩
  rw [hks]
  exact run_X (us := [.ref a]) (vs := [.ref a]) F (hr.low hk) (b pt hpt) tkW I3 (.cons rfl .nil) rz l1 l2 q3
end
end Vx
/-! # lists within lists that are owned as a whole -/
namespace Vx
open PySem PySem.Spec PyProof.Rows L2
inductive Kd where
  | lst
  | tup
  | ins (C dx : Addr) (ns : List Str)
def Kd.ho : Kd → List V → HO
  | .lst, vs => .lst vs
  | .tup, vs => .tup vs
  | .ins C dx ns, vs => .ins C dx (ns.zip vs)
/-- what stands in the heap as a tree: values as they are, data that stay, nodes of its own -/
inductive Dt where
  | val (v : V)
  | frz (d : PyData)
  | nod (k : Kd) (xs : List Dt)
mutual
inductive Ow (G H : Hp) : List Addr → V → Dt → Prop
  | val (v : V) : Ow G H [] v (.val v)
  | frz {v : V} {d : PyData} : Rp G v d → Ow G H [] v (.frz d)
  | nod {a : Addr} {k : Kd} {vs : List V} {ds : List Dt} {L : List Addr} : H a = some (k.ho vs) → OwAll G H L vs ds → a ∉ L → Ow G H (a :: L) (.ref a) (.nod k ds)
inductive OwAll (G H : Hp) : List Addr → List V → List Dt → Prop
  | nil : OwAll G H [] [] []
  | cons {L1 L2 : List Addr} {v : V} {vs : List V} {d : Dt} {ds : List Dt} : Ow G H L1 v d → OwAll G H L2 vs ds → (∀ b ∈ L1, b ∉ L2) → OwAll G H (L1 ++ L2) (v :: vs) (d :: ds)
end
def Keeps (L : List Addr) (H H' : Hp) : Prop := ∀ b ∈ L, ∀ o, H b = some o → H' b = some o
mutual
theorem Ow.mono {G G' H H' : Hp} (e : Same G G') : ∀ {L : List Addr} {v : V} {d : Dt}, Keeps L H H' → Ow G H L v d → Ow G' H' L v d
  | _, _, _, _, .val v => .val v
  | _, _, _, _, .frz r => .frz (r.mono e)
  | _, _, _, k, .nod h r n => .nod (k _ List.mem_cons_self _ h) (OwAll.mono e (fun b hb => k b (List.mem_cons_of_mem _ hb)) r) n
theorem OwAll.mono {G G' H H' : Hp} (e : Same G G') : ∀ {L : List Addr} {vs : List V} {ds : List Dt}, Keeps L H H' → OwAll G H L vs ds → OwAll G' H' L vs ds
  | _, _, _, _, .nil => .nil
  | _, _, _, k, .cons a r d => .cons (Ow.mono e (fun b hb => k b (List.mem_append_left _ hb)) a) (OwAll.mono e (fun b hb => k b (List.mem_append_right _ hb)) r) d
end
mutual
theorem Ow.there {G H : Hp} : ∀ {L : List Addr} {v : V} {d : Dt}, Ow G H L v d → ∀ b ∈ L, H b ≠ none
  | _, _, _, .val _, _, hb => nomatch hb
  | _, _, _, .frz _, _, hb => nomatch hb
  | _, _, _, .nod h r n, b, hb => by
    rcases List.mem_cons.mp hb with rfl | hb
    · exact some_ne h
    · exact OwAll.there r b hb
theorem OwAll.there {G H : Hp} : ∀ {L : List Addr} {vs : List V} {ds : List Dt}, OwAll G H L vs ds → ∀ b ∈ L, H b ≠ none
  | _, _, _, .nil, _, hb => nomatch hb
  | _, _, _, .cons a r d, b, hb => by
    rcases List.mem_append.mp hb with hb | hb
    · exact Ow.there a b hb
    · exact OwAll.there r b hb
end
theorem OwAll.len {G H : Hp} : ∀ {L : List Addr} {vs : List V} {ds : List Dt}, OwAll G H L vs ds → vs.length = ds.length
  | _, _, _, .nil => rfl
  | _, _, _, .cons _ r _ => congrArg Nat.succ r.len
theorem OwAll.snoc {G H : Hp} {L1 : List Addr} {v : V} {d : Dt} (h : Ow G H L1 v d) : ∀ {L : List Addr} {vs : List V} {ds : List Dt}, OwAll G H L vs ds → (∀ b ∈ L, b ∉ L1) → OwAll G H (L ++ L1) (vs ++ [v]) (ds ++ [d])
  | _, _, _, .nil, _ => by
    have z : OwAll G H (L1 ++ []) [v] [d] := .cons h .nil (fun _ _ z => nomatch z)
    rw [List.append_nil] at z
    exact z
  | _, _, _, .cons (L1 := La) (L2 := Lb) a r n, k => by
    have z := OwAll.cons a (OwAll.snoc h r fun b hb => k b (List.mem_append_right _ hb)) (fun b hb q => by
      rcases List.mem_append.mp q with q | q
      · exact n b hb q
      · exact k b (List.mem_append_left _ hb) q)
    rw [← List.append_assoc] at z
    exact z
theorem OwAll.app {G H : Hp} {L2 : List Addr} {ws : List V} {es : List Dt} (h : OwAll G H L2 ws es) : ∀ {L : List Addr} {vs : List V} {ds : List Dt}, OwAll G H L vs ds → (∀ b ∈ L, b ∉ L2) → OwAll G H (L ++ L2) (vs ++ ws) (ds ++ es)
  | _, _, _, .nil, _ => h
  | _, _, _, .cons (L1 := La) (L2 := Lb) a r n, k => by
    have z := OwAll.cons a (OwAll.app h r fun b hb => k b (List.mem_append_right _ hb)) (fun b hb q => by
      rcases List.mem_append.mp q with q | q
      · exact n b hb q
      · exact k b (List.mem_append_left _ hb) q)
    rw [← List.append_assoc] at z
    exact z
/-! ### trees that are data -/
mutual
inductive Dd : Dt → PyData → Prop
  | non : Dd (.val .non) .none
  | bl (b : Bool) : Dd (.val (.bl b)) (.bool b)
  | int (i : Int) : Dd (.val (.int i)) (.int i)
  | str (x : Str) : Dd (.val (.str x)) (.str x)
  | frz (d : PyData) : Dd (.frz d) d
  | lst {xs : List Dt} {ds : List PyData} : DdAll xs ds → Dd (.nod .lst xs) (.list ds)
  | tup {xs : List Dt} {ds : List PyData} : DdAll xs ds → Dd (.nod .tup xs) (.tuple ds)
inductive DdAll : List Dt → List PyData → Prop
  | nil : DdAll [] []
  | cons {x : Dt} {xs : List Dt} {d : PyData} {ds : List PyData} : Dd x d → DdAll xs ds → DdAll (x :: xs) (d :: ds)
end
mutual
/-- read in any heap that holds its nodes -/
theorem Ow.rp {G H I : Hp} (e : Same G I) : ∀ {L : List Addr} {v : V} {d : Dt} {p : PyData}, Keeps L H I → Ow G H L v d → Dd d p → Rp I v p
  | _, _, _, _, _, .val _, .non => .non
  | _, _, _, _, _, .val _, .bl b => .bl b
  | _, _, _, _, _, .val _, .int i => .int i
  | _, _, _, _, _, .val _, .str x => .str x
  | _, _, _, _, _, .frz r, .frz _ => r.mono e
  | _, _, _, _, k, .nod h r _, .lst q => .lst (k _ List.mem_cons_self _ h) (OwAll.rp e (fun b hb => k b (List.mem_cons_of_mem _ hb)) r q)
  | _, _, _, _, k, .nod h r _, .tup q => .tup (k _ List.mem_cons_self _ h) (OwAll.rp e (fun b hb => k b (List.mem_cons_of_mem _ hb)) r q)
theorem OwAll.rp {G H I : Hp} (e : Same G I) : ∀ {L : List Addr} {vs : List V} {ds : List Dt} {ps : List PyData}, Keeps L H I → OwAll G H L vs ds → DdAll ds ps → RpAll I vs ps
  | _, _, _, _, _, .nil, .nil => .nil
  | _, _, _, _, k, .cons a r _, .cons x xs => .cons (Ow.rp e (fun b hb => k b (List.mem_append_left _ hb)) a x) (OwAll.rp e (fun b hb => k b (List.mem_append_right _ hb)) r xs)
end
def oI (i : Int) : Dt := .val (.int i)
def oB (b : Bool) : Dt := .val (.bl b)
def oF {α : Type} (f : α → PyData) (x : α) : Dt := .frz (f x)
def oL {α : Type} (f : α → Dt) (xs : List α) : Dt := .nod .lst (xs.map f)
def EncO {α : Type} (f : α → Dt) (g : α → PyData) : Prop := ∀ x, Dd (f x) (g x)
theorem encO_I : EncO oI PyData.int := fun i => .int i
theorem encO_B : EncO oB PyData.bool := fun i => .bl i
theorem encO_F {α : Type} {f : α → PyData} : EncO (oF f) f := fun _ => .frz _
theorem EncO.all {α : Type} {f : α → Dt} {g : α → PyData} (h : EncO f g) : ∀ xs : List α, DdAll (xs.map f) (xs.map g)
  | [] => .nil
  | x :: xs => .cons (h x) (EncO.all h xs)
theorem encO_L {α : Type} {f : α → Dt} {g : α → PyData} (h : EncO f g) : EncO (oL f) (encL g) := fun xs => .lst (h.all xs)
theorem keeps_same {L : List Addr} {H H' : Hp} (e : Same H H') : Keeps L H H' := fun b _ o q => e b o q
theorem keeps_refl {L : List Addr} {H : Hp} : Keeps L H H := fun _ _ _ q => q
theorem keeps_mut {L : List Addr} {H H' : Hp} {m : Addr} (x : SameX m H H') (n : ∀ b ∈ L, b ≠ m) : Keeps L H H' := fun b hb o q => x b o q (n b hb)
theorem keeps_muts {L M : List Addr} {H H' : Hp} (x : SameXs M H H') (n : ∀ b ∈ L, b ∉ M) : Keeps L H H' := fun b hb o q => x b o q (n b hb)
theorem keeps_hide {L M : List Addr} {H : Hp} (n : ∀ b ∈ L, b ∉ M) : Keeps L H (hideL M H) := fun b hb o q => by
  rw [hideL_out (n b hb)]
  exact q
section
variable {α : Type} {f : α → Dt} {g : α → PyData} {G H I : Hp} {L : List Addr} {vs : List V} {xs : List α}
theorem OwAll.rpA (w : OwAll G H L vs (xs.map f)) (h : EncO f g) (e : Same G H) : RpAll H vs (xs.map g) := OwAll.rp e keeps_refl w (h.all xs)
theorem OwAll.rpH (w : OwAll G H L vs (xs.map f)) (h : EncO f g) (e : Same G I) (k : Keeps L H I) : RpAll I vs (xs.map g) := OwAll.rp e k w (h.all xs)
theorem OwAll.lenM (w : OwAll G H L vs (xs.map f)) : vs.length = xs.length := by rw [w.len, List.length_map]
theorem OwAll.snocM {L1 : List Addr} {v : V} {y : α} (w : OwAll G H L vs (xs.map f)) (h : Ow G H L1 v (f y)) (n : ∀ b ∈ L, b ∉ L1) : OwAll G H (L ++ L1) (vs ++ [v]) ((xs ++ [y]).map f) := by
  rw [List.map_append]
  exact OwAll.snoc h w n
theorem Ow.ints {a : Addr} {ys : List Int} (h : H a = some (.lst (ys.map V.int))) : Ow G H [a] (.ref a) (oL oI ys) := by
  have z : ∀ ys : List Int, OwAll G H [] (ys.map V.int) (ys.map oI) := fun ys => by
    induction ys with
    | nil => exact .nil
    | cons y r ih => exact .cons (L1 := []) (L2 := []) (.val _) ih (fun _ z => nomatch z)
  exact .nod (k := .lst) h (z ys) (fun z => nomatch z)
theorem Ow.list {a : Addr} {xs : List α} {L : List Addr} {vs : List V} (h : H a = some (.lst vs)) (w : OwAll G H L vs (xs.map f)) (n : ∀ b ∈ L, b ≠ a) : Ow G H (a :: L) (.ref a) (oL f xs) := .nod (k := .lst) h w (fun z => n a z rfl)
theorem Ow.toList {v : V} {L : List Addr} {xs : List α} (w : Ow G H L v (oL f xs)) : ∃ a vs L', v = .ref a ∧ L = a :: L' ∧ H a = some (.lst vs) ∧ OwAll G H L' vs (xs.map f) ∧ ∀ b ∈ L', b ≠ a := by
  unfold oL at w
  cases w with
  | nod h r n => exact ⟨_, _, _, rfl, rfl, h, r, fun b hb z => n (z ▸ hb)⟩
theorem OwAll.toInts : ∀ {L : List Addr} {vs : List V} {xs : List Int}, OwAll G H L vs (xs.map oI) → L = [] ∧ vs = xs.map V.int
  | _, _, [], .nil => ⟨rfl, rfl⟩
  | _, _, x :: xs, .cons a r _ => by
    obtain ⟨h1, h2⟩ := OwAll.toInts r
    cases a
    exact ⟨by rw [h1] <;> rfl, by rw [h2] <;> rfl⟩
theorem Ow.toInts {v : V} {L : List Addr} {xs : List Int} (w : Ow G H L v (oL oI xs)) : ∃ a, v = .ref a ∧ L = [a] ∧ H a = some (.lst (xs.map V.int)) := by
  obtain ⟨a, vs, L', rfl, rfl, h, r, _⟩ := w.toList
  obtain ⟨rfl, rfl⟩ := r.toInts
  exact ⟨a, rfl, rfl, h⟩
/-- the part at a place, and how a change of it alone changes the whole -/
theorem OwAll.part : ∀ {L : List Addr} {vs : List V} {ds : List Dt} {i : Nat} {d : Dt}, OwAll G H L vs ds → ds[i]? = some d → ∃ v L1, vs[i]? = some v ∧ Ow G H L1 v d ∧ (∀ b ∈ L1, b ∈ L) ∧
    ∀ H' d', (∀ b ∈ L, b ∉ L1 → ∀ o, H b = some o → H' b = some o) → Ow G H' L1 v d' → OwAll G H' L vs (ds.set i d')
  | _, _, _, _, _, .nil, h => by simp at h
  | _, _, _, 0, _, .cons (L1 := La) (L2 := Lb) a r n, h => by
    simp at h
    subst h
    refine ⟨_, La, rfl, a, fun b hb => List.mem_append_left _ hb, fun H' d' k w => ?_⟩
    exact .cons w (OwAll.mono (Same.refl G) (fun b hb => k b (List.mem_append_right _ hb) fun z => n b z hb) r) n
  | _, _, _, i + 1, _, .cons (L1 := La) (L2 := Lb) a r n, h => by
    obtain ⟨v, L1, h1, h2, h3, h4⟩ := OwAll.part (i := i) r (by simpa using h)
    refine ⟨v, L1, by simpa using h1, h2, fun b hb => List.mem_append_right _ (h3 b hb), fun H' d' k w => ?_⟩
    refine .cons (Ow.mono (Same.refl G) (fun b hb => k b (List.mem_append_left _ hb) fun z => n b hb (h3 b z)) a) (h4 H' d' (fun b hb nb => k b (List.mem_append_right _ hb) nb) w) n
/-- the same, where the part grows: its new footprint is the old one and what is new -/
theorem OwAll.part2 : ∀ {L : List Addr} {vs : List V} {ds : List Dt} {i : Nat} {d : Dt}, OwAll G H L vs ds → ds[i]? = some d → ∃ v L1, vs[i]? = some v ∧ Ow G H L1 v d ∧ (∀ b ∈ L1, b ∈ L) ∧
    (∀ H' d', (∀ b ∈ L, b ∉ L1 → ∀ o, H b = some o → H' b = some o) → Ow G H' L1 v d' → OwAll G H' L vs (ds.set i d')) ∧
    ∀ H' d' Fv L1', (∀ b ∈ L, b ∉ L1 → ∀ o, H b = some o → H' b = some o) → (∀ b ∈ L1', b ∈ L1 ++ Fv) → (∀ b ∈ Fv, b ∉ L) → Ow G H' L1' v d' → ∃ L', (∀ b ∈ L', b ∈ L ++ Fv) ∧ OwAll G H' L' vs (ds.set i d')
  | _, _, _, _, _, .nil, h => by simp at h
  | _, _, _, 0, _, .cons (L1 := La) (L2 := Lb) a r n, h => by
    simp at h
    subst h
    refine ⟨_, La, rfl, a, fun b hb => List.mem_append_left _ hb, fun H' d' k w => ?_, fun H' d' Fv L1' k s nf w => ⟨L1' ++ Lb, fun b hb => ?_, ?_⟩⟩
    · exact .cons w (OwAll.mono (Same.refl G) (fun b hb => k b (List.mem_append_right _ hb) fun z => n b z hb) r) n
    · rcases List.mem_append.mp hb with hb | hb
      · rcases List.mem_append.mp (s b hb) with q | q
        · exact List.mem_append_left _ (List.mem_append_left _ q)
        · exact List.mem_append_right _ q
      · exact List.mem_append_left _ (List.mem_append_right _ hb)
    · refine .cons w (OwAll.mono (Same.refl G) (fun b hb => k b (List.mem_append_right _ hb) fun z => n b z hb) r) fun b hb q => ?_
      rcases List.mem_append.mp (s b hb) with z | z
      · exact n b z q
      · exact nf b z (List.mem_append_right _ q)
  | _, _, _, i + 1, _, .cons (L1 := La) (L2 := Lb) a r n, h => by
    obtain ⟨v, L1, h1, h2, h3, h4, h5⟩ := OwAll.part2 (i := i) r (by simpa using h)
    refine ⟨v, L1, by simpa using h1, h2, fun b hb => List.mem_append_right _ (h3 b hb), fun H' d' k w => ?_, fun H' d' Fv L1' k s nf w => ?_⟩
    · refine .cons (Ow.mono (Same.refl G) (fun b hb => k b (List.mem_append_left _ hb) fun z => n b hb (h3 b z)) a) (h4 H' d' (fun b hb nb => k b (List.mem_append_right _ hb) nb) w) n
    · obtain ⟨L', s2, z⟩ := h5 H' d' Fv L1' (fun b hb nb => k b (List.mem_append_right _ hb) nb) s (fun b hb q => nf b hb (List.mem_append_right _ q)) w
      refine ⟨La ++ L', fun b hb => ?_, .cons (Ow.mono (Same.refl G) (fun b hb => k b (List.mem_append_left _ hb) fun z => n b hb (h3 b z)) a) z fun b hb q => ?_⟩
      · rcases List.mem_append.mp hb with hb | hb
        · exact List.mem_append_left _ (List.mem_append_left _ hb)
        · rcases List.mem_append.mp (s2 b hb) with q | q
          · exact List.mem_append_left _ (List.mem_append_right _ q)
          · exact List.mem_append_right _ q
      · rcases List.mem_append.mp (s2 b q) with y | y
        · exact n b hb y
        · exact nf b y (List.mem_append_left _ hb)
theorem OwAll.partM [Inhabited α] {k : Int} (w : OwAll G H L vs (xs.map f)) (h : -(xs.length : Int) ≤ k ∧ k < xs.length) : ∃ v L1, atI vs k = some v ∧ Ow G H L1 v (f (itD xs k)) ∧ (∀ b ∈ L1, b ∈ L) ∧
    (∀ H' y, (∀ b ∈ L, b ∉ L1 → ∀ o, H b = some o → H' b = some o) → Ow G H' L1 v (f y) → OwAll G H' L vs ((setL xs k y).map f)) ∧
    ∀ H' y Fv L1', (∀ b ∈ L, b ∉ L1 → ∀ o, H b = some o → H' b = some o) → (∀ b ∈ L1', b ∈ L1 ++ Fv) → (∀ b ∈ Fv, b ∉ L) → Ow G H' L1' v (f y) → ∃ L', (∀ b ∈ L', b ∈ L ++ Fv) ∧ OwAll G H' L' vs ((setL xs k y).map f) := by
  obtain ⟨j, e, hj⟩ := ixN_some h
  have hx := List.getElem?_eq_getElem hj
  obtain ⟨v, L1, h1, h2, h3, h4, h5⟩ := OwAll.part2 (i := j) (d := f xs[j]) w (by rw [List.getElem?_map, hx] <;> rfl)
  have ei : itD xs k = xs[j] := by
    unfold itD atI
    rw [e]
    show (xs[j]?).getD default = _
    rw [hx] <;> rfl
  refine ⟨v, L1, ?_, by rw [ei]; exact h2, h3, fun H' y q w2 => ?_, fun H' y Fv L1' q s nf w2 => ?_⟩
  · unfold atI
    rw [w.lenM, e]
    exact h1
  · have z := h4 H' (f y) q w2
    unfold setL
    rw [e, List.map_set]
    exact z
  · obtain ⟨L', s2, z⟩ := h5 H' (f y) Fv L1' q s nf w2
    refine ⟨L', s2, ?_⟩
    unfold setL
    rw [e, List.map_set]
    exact z
theorem grow_keeps {L L1 : List Addr} {m : Addr} {H H1 H2 : Hp} (e : Same H H1) (x : SameX m H1 H2) (hm : m ∈ L1) : ∀ b ∈ L, b ∉ L1 → ∀ o, H b = some o → H2 b = some o := fun b _ n o q => x b o (e b o q) (fun z => n (z ▸ hm))
theorem grow_sub {a : Addr} {L' Lr Fv : List Addr} (h : ∀ b ∈ L', b ∈ Lr ++ Fv) : ∀ b ∈ a :: L', b ∈ (a :: Lr) ++ Fv := fun b hb => by
  rcases List.mem_cons.mp hb with rfl | hb
  · exact List.mem_cons_self
  · exact List.mem_cons_of_mem _ (h b hb)
/-- the item of a turn -/
theorem OwAll.turn {i : Nat} {v : V} (w : OwAll G H L vs (xs.map f)) (h : vs[i]? = some v) : ∃ x L1, xs[i]? = some x ∧ Ow G H L1 v (f x) ∧ ∀ b ∈ L1, b ∈ L := by
  have hl := get_len h
  have e := w.lenM
  have hx := List.getElem?_eq_getElem (show i < xs.length by omega)
  obtain ⟨v2, L1, h1, h2, h3, _⟩ := OwAll.part (i := i) (d := f xs[i]) w (by rw [List.getElem?_map, hx] <;> rfl)
  rw [h] at h1
  cases h1
  exact ⟨_, L1, hx, h2, h3⟩
end
/-! ### what is owned, in pieces -/
theorem all_app {P : Addr → Prop} {L l : List Addr} (h : ∀ x ∈ L, P x) (t : ∀ x ∈ l, P x) : ∀ x ∈ L ++ l, P x := fun x hx => by
  rcases List.mem_append.mp hx with q | q
  · exact h x q
  · exact t x q
theorem nm_nil {a : Addr} : a ∉ ([] : List Addr) := fun z => nomatch z
theorem nm_cons {a m : Addr} {l : List Addr} (h : a ≠ m) (t : a ∉ l) : a ∉ m :: l := fun z => by
  rcases List.mem_cons.mp z with q | q
  · exact h q
  · exact t q
theorem nm_app {a : Addr} {L l : List Addr} (h : a ∉ L) (t : a ∉ l) : a ∉ L ++ l := fun z => by
  rcases List.mem_append.mp z with q | q
  · exact h q
  · exact t q
theorem there_ne {H : Hp} {L : List Addr} {x : Addr} (t : ∀ b ∈ L, H b ≠ none) (n : H x = none) : ∀ b ∈ L, b ≠ x := fun b hb z => t b hb (z ▸ n)
theorem new_ne {H : Hp} {L : List Addr} {x : Addr} {o : HO} (n : ∀ b ∈ L, H b = none) (h : H x = some o) : ∀ b ∈ L, b ≠ x := fun b hb z => by
  have := n b hb
  rw [z, h] at this
  cases this
theorem new_nl {H : Hp} {L L2 : List Addr} (n : ∀ b ∈ L, H b = none) (t : ∀ b ∈ L2, H b ≠ none) : ∀ b ∈ L, b ∉ L2 := fun b hb z => t b z (n b hb)
theorem nl_symm {L L2 : List Addr} (h : ∀ b ∈ L, b ∉ L2) : ∀ b ∈ L2, b ∉ L := fun b hb z => h b z hb
theorem none_of_same {H H' : Hp} {x : Addr} (e : Same H H') (n : H' x = none) : H x = none := by
  cases q : H x with
  | none => rfl
  | some o =>
    rw [e x o q] at n
    cases n
section
variable {M : List Addr} {H0 G0 G H H' : Hp} {O L : List Addr} {p m : Addr} {o : HO}
theorem Sep.h0 (S : Sep M H0 G0 G H O) {b : Addr} (hb : b ∈ O) (hM : b ∉ M) : H0 b = none := (S.ow b hb).2.2.elim (fun z => (hM z).elim) id
theorem g_nl {a : Addr} {o : HO} (h : G a = some o) (S : Sep M H0 G0 G H O) (hL : ∀ b ∈ L, b ∈ O) : ∀ b ∈ L, b ≠ a := fun b hb => (g_ne h S (hL b hb)).symm
theorem b_nl {a : Addr} {o : HO} (h : (hideL M H0) a = some o) (S : Sep M H0 G0 G H O) (hL : ∀ b ∈ L, b ∈ O) : ∀ b ∈ L, b ≠ a := fun b hb => (b_ne h S (hL b hb)).symm
/-- a whole tree that is to stay as it is -/
theorem Sep.freezeL (S : Sep M H0 G0 G H O) {O' : List Addr} (hL : ∀ b ∈ L, b ∈ O) (h0 : ∀ b ∈ L, H0 b = none) (hO : ∀ b ∈ O', b ∈ O ∧ b ∉ L) : ∃ G', Same G G' ∧ Keeps L H G' ∧ Sep M H0 G0 G' H O' := by
  have gn : ∀ b ∈ L, G b = none := fun b hb => (S.ow b (hL b hb)).1
  refine ⟨fun b => if b ∈ L then H b else G b, fun b u q => ?_, fun b hb u q => ?_, S.base, S.pm, fun b u q => ?_, fun b u q => ?_, fun b hb gb => ?_, fun a ha => ?_⟩
  · have n : b ∉ L := fun z => by
      rw [gn b z] at q
      cases q
    show (if b ∈ L then H b else G b) = _
    rw [if_neg n]
    exact q
  · show (if b ∈ L then H b else G b) = _
    rw [if_pos hb]
    exact q
  · by_cases z : b ∈ L
    · exact (if_pos z).symm.trans q
    · exact S.sG b u ((if_neg z).symm.trans q)
  · have z : b ∉ L := fun z => by
      have := S.g0 b u q
      rw [gn b z] at this
      cases this
    show (if b ∈ L then H b else G b) = _
    rw [if_neg z]
    exact S.g0 b u q
  · have z : b ∉ L := fun z => hb (h0 b z)
    show (if b ∈ L then H b else G b) = _
    rw [if_neg z]
    exact S.gn b hb gb
  · obtain ⟨h1, h2⟩ := hO a ha
    refine ⟨?_, (S.ow a h1).2⟩
    show (if a ∈ L then H a else G a) = _
    rw [if_neg h2]
    exact (S.ow a h1).1
/-- a callee hands over a list of lists of its own making -/
theorem Sep.steptree (S : Sep M H0 G0 G H O) {G' : Hp} (e : Same H H') (eG : Same G G') (sG : Same G' H') (hn : ∀ b, H b ≠ none → G b = none → G' b = none) (L : List Addr) (hL : ∀ b ∈ L, H b = none ∧ G' b = none ∧ H' b ≠ none) : Sep M H0 G0 G' H' (L ++ O) := by
  have S2 := S.step e eG sG hn
  refine ⟨S2.base, S2.pm, S2.sG, S2.g0, S2.gn, all_app (fun b hb => ⟨(hL b hb).2.1, (hL b hb).2.2, .inr (S.free (hL b hb).1)⟩) S2.ow⟩
end
theorem Rp.list_of {α : Type} {g : α → PyData} {H : Hp} {a : Addr} {vs : List V} {xs : List α} (h : H a = some (.lst vs)) (r : RpAll H vs (xs.map g)) : Rp H (.ref a) (encL g xs) := .lst h r
/-! ### repr of data -/
mutual
def nodes : PyData → Nat
  | .list xs => 1 + nodesAll xs
  | .tuple xs => 1 + nodesAll xs
  | _ => 1
def nodesAll : List PyData → Nat
  | [] => 0
  | x :: xs => nodes x + nodesAll xs
end
mutual
def smallD : PyData → Bool
  | .none => true
  | .bool _ => true
  | .int i => decide (i.natAbs < 10 ^ 19)
  | .str x => decide ((reprText x).length ≤ 20)
  | .list xs => smallAll xs
  | .tuple xs => smallAll xs
  | _ => false
def smallAll : List PyData → Bool
  | [] => true
  | x :: xs => smallD x && smallAll xs
end
theorem piled_list (ts : List Str) : (listText ts).length ≤ piled ts + 2 := by
  cases ts with
  | nil => exact Nat.le_refl 2
  | cons t r =>
    have e : (listText (t :: r)).length = (textFrom 1 ("[" ++ ("" : String) ++ t) r).length + 1 := by
      show (textFrom 0 "[" (t :: r) ++ "]").length = _
      rw [strLen_append]
      rfl
    rw [e, textFrom_length_pos r 1 _ (by decide), piled_cons, strLen_append, strLen_append]
    have h1 : (("[" : String) : Str).length = 1 := rfl
    have h2 : (("" : String) : Str).length = 0 := rfl
    omega
theorem piled_tup (ts : List Str) : (tupleText ts).length ≤ piled ts + 3 := by
  unfold tupleText
  rw [strLen_append, strLen_append]
  have h1 : (("(" : String) : Str).length = 1 := rfl
  have h2 : (((if ts.length == 1 then ",)" else ")" : String) : Str)).length ≤ 2 := by split <;> decide
  by_cases h : ts = []
  · subst h
    exact Nat.le_of_lt (by decide)
  · have := join_length_add ts h
    omega
mutual
theorem small_shown : ∀ d : PyData, smallD d = true → d.shown.length + 4 ≤ 26 * nodes d ∧ d.showable = true ∧ d.hasDict = false
  | .none, _ => ⟨by simp only [PyData.shown, nodes]; decide, by simp [PyData.showable], by simp [PyData.hasDict]⟩
  | .bool b, _ => ⟨by cases b <;> simp only [PyData.shown, nodes] <;> decide, by simp [PyData.showable], by simp [PyData.hasDict]⟩
  | .int i, h => by
    have h : i.natAbs < 10 ^ 19 := by simpa [smallD] using h
    refine ⟨?_, ?_, by simp [PyData.hasDict]⟩
    · have := int_text_length_le10 (k := 19) (by decide) h
      simp only [PyData.shown, nodes]
      rw [PySem.ofString_length]
      omega
    · simp only [PyData.showable, decide_eq_true_eq]
      have : i.natAbs < 2 ^ 64 := by omega
      rcases Nat.eq_zero_or_pos i.natAbs with z | z
      · rw [z]
        decide
      · have := (Nat.log2_lt (by omega)).mpr this
        omega
  | .str x, h => by
    have h : (reprText x).length ≤ 20 := by simpa [smallD] using h
    refine ⟨by simp only [PyData.shown, nodes]; omega, by simp [PyData.showable], by simp [PyData.hasDict]⟩
  | .list xs, h => by
    obtain ⟨h1, h2, h3⟩ := small_shownAll xs (by simpa [smallD] using h)
    refine ⟨?_, by simpa [PyData.showable] using h2, by simpa [PyData.hasDict] using h3⟩
    have := piled_list (PyData.shownAll xs)
    simp only [PyData.shown, nodes]
    omega
  | .tuple xs, h => by
    obtain ⟨h1, h2, h3⟩ := small_shownAll xs (by simpa [smallD] using h)
    refine ⟨?_, by simpa [PyData.showable] using h2, by simpa [PyData.hasDict] using h3⟩
    have := piled_tup (PyData.shownAll xs)
    simp only [PyData.shown, nodes]
    omega
  | .dict kvs, h => by simp [smallD] at h
theorem small_shownAll : ∀ ds : List PyData, smallAll ds = true → piled (PyData.shownAll ds) ≤ 26 * nodesAll ds ∧ PyData.showableAll ds = true ∧ PyData.hasDictAll ds = false
  | [], _ => ⟨by simp [PyData.shownAll, nodesAll, piled], by simp [PyData.showableAll], by simp [PyData.hasDictAll]⟩
  | d :: ds, h => by
    have h : smallD d = true ∧ smallAll ds = true := by simpa [smallAll] using h
    obtain ⟨a1, a2, a3⟩ := small_shown d h.1
    obtain ⟨b1, b2, b3⟩ := small_shownAll ds h.2
    refine ⟨?_, by simp [PyData.showableAll, a2, b2], by simp [PyData.hasDictAll, a3, b3]⟩
    simp only [PyData.shownAll, nodesAll, piled_cons]
    omega
end
/-- data that repr may show -/
def ShowOk (d : PyData) : Prop := smallD d = true ∧ nodes d ≤ 600000 ∧ d.depth ≤ 60
instance (d : PyData) : Decidable (ShowOk d) := by unfold ShowOk; infer_instance
def rRepr : List V → Hp → VK → Prop := fun xs H Q => ∃ (a : Addr) (d : PyData), xs = [.ref a] ∧ Rp H (.ref a) d ∧ ShowOk d ∧ Q (.str d.shown) H
theorem call_reprD {X : Cx} (hg : X.A.guards = some []) (hu : X.A.units + 64 < cLine) : CallR X (.builtin "repr") rRepr := by
  intro pins s σ H xs us Q I r h
  obtain ⟨a, d, rfl, rp, ⟨ok, nd, dp⟩, q⟩ := h
  obtain ⟨h1, h2, h3⟩ := small_shown d ok
  cases r with
  | cons ra rn =>
    cases rn
    cases ra
    obtain ⟨as, reads⟩ := Dp.reads I d _ _ rp.dp rfl
    refine repr_of_reads' reads h2 (PyData.noDict_hsm h3) hg (by omega) (fun _ _ e => e) (fun h' u tk k => ⟨.str d.shown, H, I.kept k, ⟨u, rfl⟩, q⟩) ?_
    show d.shown.length ≤ 2 ^ 24
    omega
/-- small data: nodes, depth -/
def Sm (n k : Nat) (d : PyData) : Prop := smallD d = true ∧ nodes d ≤ n ∧ d.depth ≤ k
theorem Sm.imp {n k n' k' : Nat} {d : PyData} (h : Sm n k d) (a : n ≤ n') (b : k ≤ k') : Sm n' k' d := ⟨h.1, Nat.le_trans h.2.1 a, Nat.le_trans h.2.2 b⟩
theorem Sm.show {n k : Nat} {d : PyData} (h : Sm n k d) (a : n ≤ 600000 := by decide) (b : k ≤ 60 := by decide) : ShowOk d := h.imp a b
theorem sm_non : Sm 1 0 .none := ⟨by simp [smallD], by simp [nodes], by simp [PyData.depth]⟩
theorem sm_bool (b : Bool) : Sm 1 0 (.bool b) := ⟨by simp [smallD], by simp [nodes], by simp [PyData.depth]⟩
theorem sm_int {i : Int} (h : -10000000000000000000 < i ∧ i < 10000000000000000000) : Sm 1 0 (.int i) := ⟨by simp only [smallD, decide_eq_true_eq]; omega, by simp [nodes], by simp [PyData.depth]⟩
theorem sm_all {α : Type} {f : α → PyData} {n k : Nat} : ∀ {xs : List α}, (∀ x ∈ xs, Sm n k (f x)) → smallAll (xs.map f) = true ∧ nodesAll (xs.map f) ≤ xs.length * n ∧ PyData.depthAll (xs.map f) ≤ k
  | [], _ => ⟨by simp [smallAll], by simp [nodesAll], by simp [PyData.depthAll]⟩
  | x :: xs, h => by
    obtain ⟨a1, a2, a3⟩ := h x List.mem_cons_self
    obtain ⟨b1, b2, b3⟩ := sm_all fun y hy => h y (List.mem_cons_of_mem _ hy)
    refine ⟨by simp [smallAll, a1, b1], ?_, ?_⟩
    · simp only [List.map_cons, nodesAll, List.length_cons, Nat.succ_mul]
      omega
    · simp only [List.map_cons, PyData.depthAll]
      omega
theorem sm_L {α : Type} {f : α → PyData} {n k m : Nat} {xs : List α} (h : ∀ x ∈ xs, Sm n k (f x)) (hm : xs.length ≤ m) : Sm (1 + m * n) (k + 1) (encL f xs) := by
  obtain ⟨a1, a2, a3⟩ := sm_all h
  refine ⟨by simp [encL, smallD, a1], ?_, ?_⟩
  · have := Nat.mul_le_mul_right n hm
    simp only [encL, nodes]
    omega
  · simp only [encL, PyData.depth]
    omega
theorem sm_ints {xs : List Int} {m : Nat} (h : ∀ x ∈ xs, -10000000000000000000 < x ∧ x < 10000000000000000000) (hm : xs.length ≤ m) : Sm (1 + m * 1) 1 (encL PyData.int xs) := sm_L (fun x hx => sm_int (h x hx)) hm
theorem sm_T2 {α β : Type} {f : α → PyData} {g : β → PyData} {n k m j : Nat} {p : α × β} (h1 : Sm n k (f p.1)) (h2 : Sm m j (g p.2)) : Sm (1 + n + m) (max k j + 1) (encT2 f g p) := by
  obtain ⟨a1, a2, a3⟩ := h1
  obtain ⟨b1, b2, b3⟩ := h2
  refine ⟨by simp [encT2, smallD, smallAll, a1, b1], ?_, ?_⟩
  · simp only [encT2, nodes, nodesAll]
    omega
  · simp only [encT2, PyData.depth, PyData.depthAll]
    omega
theorem sm_T3 {α β γ : Type} {f : α → PyData} {g : β → PyData} {h : γ → PyData} {n k m j l i : Nat} {p : α × β × γ} (h1 : Sm n k (f p.1)) (h2 : Sm m j (g p.2.1)) (h3 : Sm l i (h p.2.2)) : Sm (1 + n + m + l) (max k (max j i) + 1) (encT3 f g h p) := by
  obtain ⟨a1, a2, a3⟩ := h1
  obtain ⟨b1, b2, b3⟩ := h2
  obtain ⟨c1, c2, c3⟩ := h3
  refine ⟨by simp [encT3, smallD, smallAll, a1, b1, c1], ?_, ?_⟩
  · simp only [encT3, nodes, nodesAll]
    omega
  · simp only [encT3, PyData.depth, PyData.depthAll]
    omega
end Vx
namespace Vx
open PySem PySem.Spec PyProof.Rows L2
theorem new_ne2 {H : Hp} {L : List Addr} {x : Addr} (n : ∀ b ∈ L, H b = none) (h : H x ≠ none) : ∀ b ∈ L, b ≠ x := fun b hb z => h (z ▸ n b hb)
theorem upd_tree {α : Type} {f : α → Dt} {G H H' : Hp} {L L1 : List Addr} {vs : List V} {xs : List α} {k : Int} {v : V} {m : Addr} {y : α} (up : ∀ H' y, (∀ b ∈ L, b ∉ L1 → ∀ o, H b = some o → H' b = some o) → Ow G H' L1 v (f y) → OwAll G H' L vs ((setL xs k y).map f)) (x : SameX m H H') (hm : m ∈ L1) (w : Ow G H' L1 v (f y)) :
    OwAll G H' L vs ((setL xs k y).map f) := up H' y (fun c _ n o q => x c o q (fun z => n (z ▸ hm))) w
theorem Ow.toFrz {α : Type} {f : α → PyData} {G H : Hp} {L : List Addr} {v : V} {x : α} (w : Ow G H L v (oF f x)) : L = [] ∧ Rp G v (f x) := by
  unfold oF at w
  cases w with
  | frz r => exact ⟨rfl, r⟩
section
variable {α : Type} {f : α → Dt} {G H : Hp} {L : List Addr} {vs : List V} {xs : List α}
theorem OwAll.pin {i : Nat} {v : V} {x : α} (w : OwAll G H L vs (xs.map f)) (h : vs[i]? = some v) (hx : xs[i]? = some x) : ∃ L1, Ow G H L1 v (f x) ∧ ∀ b ∈ L1, b ∈ L := by
  obtain ⟨y, L1, h1, h2, h3⟩ := OwAll.turn w h
  rw [hx] at h1
  cases h1
  exact ⟨L1, h2, h3⟩
theorem OwAll.pinInts {i : Nat} {b : Addr} {xs : List (List Int)} {x : List Int} (w : OwAll G H L vs (xs.map (oL oI))) (h : vs[i]? = some (.ref b)) (hx : xs[i]? = some x) : H b = some (.lst (x.map V.int)) ∧ b ∈ L := by
  obtain ⟨L1, w1, h1⟩ := OwAll.pin w h hx
  obtain ⟨c, e, rfl, h2⟩ := Ow.toInts w1
  cases e
  exact ⟨h2, h1 _ List.mem_cons_self⟩
end
end Vx
namespace Vx
open PySem PySem.Spec PyProof.Rows L2
theorem lookup_relab {c : Str → Bool} {y : Str} : ∀ l : List (Str × NameKind), (l.lookup y = some .cell ∨ l.lookup y = some .free) →
    ((l.map fun (n, k) => if (k == .free && c n) then (n, NameKind.cell) else (n, k)).lookup y = some .cell ∨ (l.map fun (n, k) => if (k == .free && c n) then (n, NameKind.cell) else (n, k)).lookup y = some .free)
  | [], h => by simp at h
  | (n, k) :: r, h => by
    rw [List.map_cons]
    dsimp only
    by_cases e : y == n
    · have hk : k = .cell ∨ k = .free := by
        rw [List.lookup_cons, e] at h
        simpa using h
      by_cases q : (k == .free && c n) = true
      · left
        rw [if_pos q, List.lookup_cons, e]
      · rw [if_neg q, List.lookup_cons, e]
        simpa using hk
    · have e : (y == n) = false := by simpa using e
      rw [List.lookup_cons, e] at h
      have ih := lookup_relab (c := c) r h
      by_cases q : (k == .free && c n) = true
      · rw [if_pos q, List.lookup_cons, e]
        exact ih
      · rw [if_neg q, List.lookup_cons, e]
        exact ih
theorem blk_relabel {N : List Str} {sc scope : Scope} {env : Env} {own : List (Str × Nat)} (h : BlkOk N sc scope own) : BlkOk N (relabel sc env) scope own := by
  refine ⟨h.kind, h.uniq, h.ix, fun y hy e => ?_, h.own⟩
  have z := lookup_relab (c := fun n => env.scope.kind == .function && env.kindOf n == some .cell) (y := y.1) sc.names (h.free y hy e)
  unfold relabel
  simpa only [Bool.and_assoc] using z
end Vx
namespace Vx
open PySem PySem.Spec PyProof.Rows L2
theorem FnG.low {P : Program} {w : World} {K : PySem.W.Frag} {mg : Str → Option Value} {base : Heap} {cx : CXT} {j k : Nat} {f : Addr} {fd : FuncData} {ps : List Str} {sp : Sp} (F : FnG P w K mg base cx j f fd ps sp) (h : j ≤ k) : FnG P w K mg base cx k f fd ps sp := ⟨F.len, fun A o s H a us vs Q E r => F.run A o s H a us vs Q E (r.low h)⟩
/-! ### a local name that holds one of several defs -/
structure HeldX (P : Program) (w : World) (K : PySem.W.Frag) (mg : Str → Option Value) (base : Heap) (k n : Nat) (f : Addr) (sp : Sp) : Prop where
  ex : ∃ (fd : FuncData) (ps : List Str), FnG P w K mg base (L2.CX P w) k f fd ps sp ∧ PySem.W.keepIn K (.ref f) = true ∧ Bnd K fd ps n [] (fun vs _ => vs)
theorem HeldX.of {P : Program} {w : World} {K : PySem.W.Frag} {mg : Str → Option Value} {base : Heap} {j k n : Nat} {x : Str} {sp : Sp} {pats : List Pat} {a : Addr} (c : CalX P w K mg base j x sp pats) (hx : mg x = some (.ref a)) (hp : (n, [], fun vs _ => vs) ∈ pats) (hj : j ≤ k) : HeldX P w K mg base k n a sp := by
  obtain ⟨f, fd, ps, F, hm, kp, b⟩ := c.ex
  rw [hx] at hm
  injection hm with hm
  injection hm with hm
  subst hm
  exact ⟨fd, ps, F.low hj, kp, b _ hp⟩
def tCallF (i n : Nat) (L : List (Addr × Sp)) (W : WX) (t : TA) : TE := fun σ H Q => ∃ f sp, σ[i]? = some (some (.ref f)) ∧ (f, sp) ∈ L ∧ t σ H fun vs H1 => vs.length = n ∧ ([] : List V).length = 0 ∧ sp vs H1 Q (WE W σ)
theorem vx_callF {X : Cx} {k j i n : Nat} {x : Str} {p pos : Pos} {e : Expr} {es : List Expr} {t : TA} {W : WX} (L : List (Addr × Sp)) (A : ∀ q ∈ L, HeldX X.prog X.w X.K X.mg X.base k n q.1 q.2) (hr : RoomG j X.A) (hk : k ≤ j) (tkW : Takes X W) (hN : X.N[i]? = some x) (hv : Vis X.env.scope x) (ha : PA X (e :: es) t)
    (hdb : (x == ("__debug__" : Str)) = false := by decide) (hcd : (x == ("__classdict__" : Str)) = false := by decide) (he : starEach (e :: es) X.env = (false, eval e X.env) :: starEach es X.env := by rfl) (hpl : (backTo pos (starEach es X.env)).any (·.1) = false := by rfl) :
    PE X (.Call (.Name x p) (e :: es) [] pos) (tCallF i n L W t) := by
  constructor
  intro pins s σ H Q I h
  obtain ⟨f, sp, slot, mem, rest⟩ := h
  obtain ⟨fd, ps, F, kp, b⟩ := (A _ mem).ex
  refine wpAny_Call_Name_kw (thn ((pe_var (pos := p) hN hv hdb hcd).run pins s σ H (fun v H1 => v = .ref f ∧ H1 = H) I ⟨.ref f, slot, rfl, rfl⟩) ?_)
  rintro u s1 ⟨v, H1, I1, r1, rfl, rfl⟩
  cases r1
  refine PySem.W.callWith_K (h₀ := X.base) I.ok.mod.kin kp (thn (ha.run pos pins s1 σ _ _ I1 rest) ?_) he hpl
  rintro us s2 ⟨vs, H2, I2, r, l1, l2, q⟩
  exact ⟨I2.kIn, run_X (us := us) (ws := []) (zs := []) F (hr.low hk) b tkW I2 r .nil l1 l2 q⟩
/-! ### the least of a list, the place of an item -/
def minL : List Int → Int
  | [] => 0
  | [x] => x
  | x :: y :: r => if x ≤ minL (y :: r) then x else minL (y :: r)
theorem minL_spec : ∀ (xs : List Int), xs ≠ [] → minL xs ∈ xs ∧ ∀ y ∈ xs, minL xs ≤ y
  | [], h => absurd rfl h
  | [x], _ => ⟨List.mem_cons_self, fun y hy => by rw [List.mem_singleton.mp hy]; exact Int.le_refl x⟩
  | x :: y :: r, _ => by
    obtain ⟨h1, h2⟩ := minL_spec (y :: r) (fun z => nomatch z)
    unfold minL
    split
    · refine ⟨List.mem_cons_self, fun z hz => ?_⟩
      rcases List.mem_cons.mp hz with rfl | hz
      · exact Int.le_refl _
      · have := h2 z hz
        omega
    · refine ⟨List.mem_cons_of_mem _ h1, fun z hz => ?_⟩
      rcases List.mem_cons.mp hz with rfl | hz
      · omega
      · exact h2 z hz
def maxL (xs : List Int) : Int := -(minL (xs.map fun x => -x))
theorem maxL_spec (xs : List Int) (h : xs ≠ []) : maxL xs ∈ xs ∧ ∀ y ∈ xs, y ≤ maxL xs := by
  obtain ⟨h1, h2⟩ := minL_spec (xs.map fun x => -x) (by simpa using h)
  obtain ⟨z, hz, e⟩ := List.mem_map.mp h1
  unfold maxL
  refine ⟨by rw [← e, Int.neg_neg]; exact hz, fun y hy => ?_⟩
  have := h2 _ (List.mem_map_of_mem hy)
  omega
section
variable {X : Cx} {K : PySem.W.Frag}
def rMinL (K : PySem.W.Frag) : List V → Hp → VK → Prop := fun vs H Q => ∃ (a : Addr) (ns : List Int), vs = [V.ref a] ∧ SqL K H a (ns.map V.int) ∧ ns ≠ [] ∧ Q (.int (minL ns)) H
def rMaxL (K : PySem.W.Frag) : List V → Hp → VK → Prop := fun vs H Q => ∃ (a : Addr) (ns : List Int), vs = [V.ref a] ∧ SqL K H a (ns.map V.int) ∧ ns ≠ [] ∧ Q (.int (maxL ns)) H
theorem cr_minL (hc : X.calm = true) (hK : X.K = K := by rfl) : CallR X (.builtin "min") (rMinL K) := by
  subst hK
  intro pins s σ H vs us Q I r h
  obtain ⟨a, ns, rfl, hs, hn, q⟩ := h
  refine cr_min hc pins s σ H _ us Q I r ⟨a, ns, rfl, hs, List.length_pos_iff.mpr hn, fun m hm hle => ?_⟩
  obtain ⟨h1, h2⟩ := minL_spec ns hn
  have e : m = minL ns := Int.le_antisymm (by have := hle _ h1; omega) (h2 m hm)
  rw [e]
  exact q
theorem cr_maxL (hc : X.calm = true) (hK : X.K = K := by rfl) : CallR X (.builtin "max") (rMaxL K) := by
  subst hK
  intro pins s σ H vs us Q I r h
  obtain ⟨a, ns, rfl, hs, hn, q⟩ := h
  refine cr_max hc pins s σ H _ us Q I r ⟨a, ns, rfl, hs, List.length_pos_iff.mpr hn, fun m hm hle => ?_⟩
  obtain ⟨h1, h2⟩ := maxL_spec ns hn
  have e : m = maxL ns := Int.le_antisymm (h2 m hm) (by have := hle _ h1; omega)
  rw [e]
  exact q
end
end Vx
namespace Vx
open PySem PySem.Spec PyProof.Rows L2
def idxL (ns : List Int) (i : Int) : Int := (ns.idxOf i : Nat)
def rIndexI (K : PySem.W.Frag) : V → List V → Hp → VK → Prop := fun x xs H Q => ∃ (a : Addr) (ns : List Int) (i : Int), x = V.ref a ∧ xs = [.int i] ∧ SqL K H a (ns.map V.int) ∧ i ∈ ns ∧ Q (.int (idxL ns i)) H
theorem mt_indexI {X : Cx} {K : PySem.W.Frag} (hK : X.K = K := by rfl) : MtR X "list.index" (rIndexI K) := by
  subst hK
  intro pins s σ H x xs v us Q I rx rxs h
  obtain ⟨a, ns, i, rfl, rfl, hs, hi, q⟩ := h
  have hl := List.idxOf_lt_length_of_mem hi
  refine mt_index pins s σ H _ _ v us Q I rx rxs ⟨a, _, .int i, ns.idxOf i, .int i, rfl, rfl, hs, rfl, flat_ints ns, ?_, by simp [eqV], fun m z hm hz => ?_, q⟩
  · rw [List.getElem?_map, List.getElem?_eq_getElem hl, List.getElem_idxOf hl] <;> rfl
  · rw [List.getElem?_map] at hz
    cases e : ns[m]? with
    | none => rw [e] at hz; cases hz
    | some y =>
      rw [e] at hz
      cases hz
      have hml : m < ns.length := by omega
      have hy : ns[m] = y := by
        rw [List.getElem?_eq_getElem hml] at e
        exact Option.some.inj e
      have := List.not_of_lt_findIdx (p := (· == i)) (xs := ns) (i := m) hm
      simp only [beq_iff_eq, hy] at this
      simp [eqV, this]
theorem cW_aftgo {σ ρ τ : Type} {s : σ} {kr : ρ → Rx τ} {k : σ → Rx τ} {K : τ → Prop} {E : Nat → Prop} (h : cW ((Lp.go s : Lp σ ρ).aft kr k) K E) : cW (k s) K E := h
end Vx
namespace Vx
open PySem PySem.Spec PyProof.Rows L2
/-! ### a truth value or a number beside a number -/
def Bi.num : Bi → Int
  | .b x => if x then 1 else 0
  | .n i => i
def Bi.dat : Bi → PyData
  | .b x => .bool x
  | .n i => .int i
section
variable {X : Cx}
def rEqBI : R2 := fun x y H Q => ∃ (b : Bi) (i : Int), x = biV b ∧ y = .int i ∧ Q (.bl (decide (b.num = i))) H
def rNeBI : R2 := fun x y H Q => ∃ (b : Bi) (i : Int), x = biV b ∧ y = .int i ∧ Q (.bl (!decide (b.num = i))) H
theorem eqv_bi (b : Bi) (i : Int) : PyData.eqv b.dat (.int i) = decide (b.num = i) := by
  cases b with
  | b x => cases x <;> (rw [Bool.eq_iff_iff]; simp [Bi.dat, Bi.num, PyData.eqv])
  | n j =>
    rw [Bool.eq_iff_iff]
    simp only [Bi.dat, Bi.num, PyData.eqv, beq_iff_eq]
    exact decide_eq_true_iff.symm
theorem dp_bi {K : PySem.W.Frag} {H : Hp} : ∀ b : Bi, Dp K H (biV b) b.dat
  | .b x => .bl x
  | .n i => .int i
theorem shaped_bi : ∀ b : Bi, SeqAt.shaped b.dat = true
  | .b x => by unfold SeqAt.shaped; simp [Bi.dat, PyData.canLay0, PyData.depth]
  | .n i => by unfold SeqAt.shaped; simp [Bi.dat, PyData.canLay0, PyData.depth]
theorem op_eqBI (hu : X.A.units + 64 < cLine) : OpR X (compareOp .Eq) rEqBI := by
  intro pins s σ H x y v u Q I rx ry h
  obtain ⟨b, i, rfl, rfl, q⟩ := h
  exact op_eqD hu pins s σ H _ _ v u Q I rx ry ⟨b.dat, .int i, dp_bi b, .int i, shaped_bi b, shaped_bi (.n i), by rw [eqv_bi]; exact q⟩
theorem op_neBI (hu : X.A.units + 64 < cLine) : OpR X (compareOp .NotEq) rNeBI := by
  intro pins s σ H x y v u Q I rx ry h
  obtain ⟨b, i, rfl, rfl, q⟩ := h
  exact op_neD hu pins s σ H _ _ v u Q I rx ry ⟨b.dat, .int i, dp_bi b, .int i, shaped_bi b, shaped_bi (.n i), by rw [eqv_bi]; exact q⟩
end
end Vx
namespace Vx
open PySem PySem.Spec PyProof.Rows L2
/-! ### == of own objects by an own __eq__ that never raises -/
section
variable {X : Cx} {k j : Nat}
def rEqX (C : Addr) (n mm : Nat) (sp : Sp) (g : List V → List V → List V) : R2 := fun x y H Q => ∃ (a b dx dy : Addr) (fs gs : List (Str × V)), x = .ref a ∧ y = .ref b ∧ H a = some (.ins C dx fs) ∧ H b = some (.ins C dy gs) ∧ 2 = n ∧ 0 = mm ∧ sp (g [x, y] []) H (fun v H' => (∃ r, v = .bl r) ∧ Q v H') E0
theorem op_eqX {C : Addr} {sp : Sp} {pats : List Pat} (c : MetX X.prog X.w X.K X.mg X.base k C "__eq__" sp pats) (pt : Pat) (hpt : pt ∈ pats) (hr : RoomG j X.A) (hk : k ≤ j) (hks : pt.2.1 = [] := by rfl) : OpR X (compareOp .Eq) (rEqX C pt.1 pt.2.1.length sp pt.2.2) := by
  intro pins s σ H x y v u Q I rx ry hq
  obtain ⟨a, b, dx, dy, fs, gs, rfl, rfl, ha, hb', l1, l2, q⟩ := hq
  obtain ⟨f, fd, ps, hc, hm, F, bb⟩ := c.ex
  cases rx
  cases ry
  obtain ⟨mA, J, _⟩ := ins_get I.hok ha
  obtain ⟨mB, J', _⟩ := ins_get I.hok hb'
  obtain ⟨od, J, _⟩ := J.look
  obtain ⟨od', J', _⟩ := J'.look
  obtain ⟨m, hF⟩ := I.fr
  have hz := run_X (us := [.ref a, .ref b]) (vs := [.ref a, .ref b]) (ws := []) (zs := []) F (hr.low hk) (bb pt hpt) (takes0 (X := X)) I (.cons rfl (.cons rfl .nil)) .nil l1 l2 q
  rw [hks] at hz
  show wpAny (model X.prog X.w) X.A (richCompare .Eq (.ref a) (.ref b)) (EP X pins σ Q) X.xe s
  refine PySem.W.cmp_K (op := .Eq) (tb := .ref C) (hr.low hk).toRoom.units0 hF I.ok.mod.kin J J'.type (by simp [PySem.W.notFirst]) hm.at_ hm.fn ?_
  refine wpAny_mono hz (fun r s' z => ?_) fun _ _ e => e
  obtain ⟨w, H', I', rw', ⟨⟨q1, rfl⟩, q2⟩⟩ := z
  cases rw'
  exact ⟨V.bl q1, H', I', rfl, q2⟩
end
end Vx
namespace Vx
open PySem PySem.Spec PyProof.Rows L2
/-! ### isinstance of the exception in hand: a built-in class, a tuple of classes -/
theorem kit_blt {K : PySem.W.Frag} {D : Addr} {T : String} {b : Bool} (h : PySem.W.subIn K (.ref D) (.type T) = some b) (h0 : PySem.W.kitMeta T = true := by decide +kernel) : PySem.W.kitOne K (.ref D) (.type T) = some b := by
  unfold PySem.W.kitOne
  rw [if_neg (show ¬ (Value.ref D == Value.type T) = true from fun z => nomatch (show false = true from z))]
  show (if PySem.W.kitMeta T = true then PySem.W.subIn K (.ref D) (.type T) else none) = some b
  rw [if_pos h0, h]
def rIsXB (K : PySem.W.Frag) (a : Addr) (cls : Value) (d : Option Addr) : List V → Hp → VK → Prop := fun xs H Q => ∃ (D : Addr) (T : String) (b : Bool), cls = .ref D ∧ d = none ∧ ExcC K D ∧ xs = [.ref a, .ty T] ∧ PySem.W.kitOne K (.ref D) (.type T) = some b ∧ Q (.bl b) H
theorem call_isXB {X : Cx} {K : PySem.W.Frag} {a : Addr} {cls : Value} {d : Option Addr} {oe : Obj} {pn : List (Addr × Obj)} (hz : Zc cls d oe) (hf : ∃ vs, oe.data = .fields vs) (hK : X.K = K := by rfl) : CallR (X.suite a ((a, oe) :: pn)) (.builtin "isinstance") (rIsXB K a cls d) := by
  subst hK
  intro pins s σ H xs us Q I r h
  obtain ⟨D, T, b, rfl, rfl, c, rfl, e, q⟩ := h
  exact call_isE c hz hf pins s σ H _ us Q I r ⟨_, _, b, rfl, fun u z => z, e, q⟩
def rIsXT (K : PySem.W.Frag) (a : Addr) (cls : Value) (d : Option Addr) : List V → Hp → VK → Prop := fun xs H Q => ∃ (D tp : Addr) (cs : List V) (ws : List Value) (b : Bool), cls = .ref D ∧ d = none ∧ ExcC K D ∧ xs = [.ref a, .ref tp] ∧ H tp = some (.tup cs) ∧ Paired ClsV cs ws ∧ PySem.W.kitAny K (.ref D) ws = some b ∧ Q (.bl b) H
theorem call_isXT {X : Cx} {K : PySem.W.Frag} {a : Addr} {cls : Value} {d : Option Addr} {oe : Obj} {pn : List (Addr × Obj)} (hz : Zc cls d oe) (hf : ∃ vs, oe.data = .fields vs) (hK : X.K = K := by rfl) : CallR (X.suite a ((a, oe) :: pn)) (.builtin "isinstance") (rIsXT K a cls d) := by
  subst hK
  intro pins s σ H xs us Q I r h
  obtain ⟨D, tp, cs, ws, b, rfl, rfl, C, rfl, hT, k, e, q⟩ := h
  cases r with
  | cons rx rr =>
    cases rr with
    | cons rt rr =>
      cases rr
      cases rx
      cases rt
      obtain ⟨hget, _⟩ := I.pin (a, oe) (List.mem_append.mpr (.inl List.mem_cons_self))
      obtain ⟨vs, hv⟩ := hf
      have J : PySem.W.InstAt s.heap a oe D none := by
        obtain ⟨oc, od, oda, osl⟩ := oe
        obtain ⟨h1, h2⟩ := hz
        dsimp only at h1 h2 hv
        subst h1 h2 hv
        exact ⟨hget, rfl, rfl, trivial⟩
      obtain ⟨_, its, rv, o, h1, h2, n, h3⟩ := (show ObjOk X.prog X.w H s.heap tp (.tup cs) from I.hok tp _ hT)
      have e3 := ClsV.all k rv
      subst e3
      obtain ⟨oc, od, dt, sl⟩ := o
      simp only at h2 h3
      subst h2 h3
      exact PySem.W.kia_tup (PySem.W.handS_kitx_exc C.hg C.hk C.hs C.hd C.ha C.hn C.ht C.hm) I.kIn J h1 e (fun z => nomatch z) fun tk => ⟨.bl b, H, I.kept (t' := tk) fun _ _ z => z, rfl, q⟩
theorem kit_self {K : PySem.W.Frag} {t : Value} (h : (t == t) = true := by simp) : PySem.W.kitOne K t t = some true := by
  unfold PySem.W.kitOne
  rw [if_pos h]
/-- what a class must say, so that isinstance asks its objects rightly -/
structure IsiC (K : PySem.W.Frag) (C : Addr) : Prop where
  ha : PySem.W.findIn K (.ref C) "__class__" = some (some (.builtin "object.__class__"))
  hn : PySem.W.specialIn K (.builtin "object.__class__") "__get__" = some (some (.builtin "getset_descriptor.__get__"))
  ht : PySem.W.takesIn K (.builtin "object.__class__") = some true
  hm : PySem.W.mroIn K C (.type "object") = some true
theorem tyX_ins {K : PySem.W.Frag} {H : Hp} {a C dx : Addr} {fs : List (Str × V)} (e : H a = some (.ins C dx fs)) (cl : Cls K C) (c : IsiC K C) : TyX K H (.ref a) (.ref C) := .base (.ins e cl c.ha c.hn c.ht c.hm)
end Vx
namespace Vx
open PySem PySem.Spec PyProof.Rows L2
theorem op_notTrue {X : Cx} : OpR X (compareOp .IsNot) (fun x y H Q => ∃ b : Bool, x = .bl b ∧ y = .bl true ∧ Q (.bl (!b)) H) := by
  intro pins s σ H x y v u Q I rx ry h
  obtain ⟨b, rfl, rfl, q⟩ := h
  cases rx
  cases ry
  show wpAny (model X.prog X.w) X.A (compareOp .IsNot (.bool b) (.bool true)) (EP X pins σ Q) X.xe s
  have e : compareOp .IsNot (.bool b) (.bool true) = pure (.bool (!b)) := by cases b <;> rfl
  rw [e]
  exact wpAny_pure ⟨.bl (!b), H, I, rfl, q⟩
end Vx
/-! # zip of any number of lists, the lists in a list -/
namespace Vz
open PySem PySem.Spec PyProof.Rows L2
/-- the iterators stand at n0, n0 + 1, .., behind them the tuple of iterators, the owned tuple, the zip itself -/
structure ZS (n0 : Nat) (ls : List Addr) (i : Nat) (h : Heap) : Prop where
  z : ∃ (x0 : Value) (f : Bool), (x0 = .none ∨ ∃ T : Nat, x0 = rawInt T) ∧ h.get? (n0 + ls.length + 2) = some { cls := .type "zip", dict := none, data := .fields #[x0, .bool f, .bool false, .ref (n0 + ls.length), .ref (n0 + ls.length + 1)], slots := #[] }
  ti : h.get? (n0 + ls.length) = some { cls := .type "tuple", data := .seq ((List.range ls.length).map fun j => Value.ref (n0 + j)).toArray }
  to : ∃ vs : List Value, vs.length = ls.length ∧ h.get? (n0 + ls.length + 1) = some { cls := .type "tuple", data := .seq vs.toArray }
  its : ∀ (j : Nat) (l : Addr), ls[j]? = some l → h.IsListIter (n0 + j) l i
def Out (n0 n c : Nat) : Prop := c < n0 ∨ n0 + n + 2 < c
section
variable {prog : Program} {w : World} {A : Around} {E : Value → Shared → Prop} {s : Shared}
/-- within a free turn, k iterators having moved on -/
structure FS (n0 : Nat) (ls : List Addr) (us : List Value) (i : Nat) (f : Bool) (h0 : Heap) (k : Nat) (h : Heap) : Prop where
  sz : h.objs.size = h0.objs.size
  out : ∀ c : Nat, Out n0 ls.length c → h.get? c = h0.get? c
  z : h.get? (n0 + ls.length + 2) = some { cls := .type "zip", dict := none, data := .fields #[.ellipsis, .bool f, .bool false, .ref (n0 + ls.length), .ref (n0 + ls.length + 1)], slots := #[] }
  ti : h.get? (n0 + ls.length) = some { cls := .type "tuple", data := .seq ((List.range ls.length).map fun j => Value.ref (n0 + j)).toArray }
  to : ∃ vs : List Value, vs.length = ls.length ∧ vs.take k = us.take k ∧ h.get? (n0 + ls.length + 1) = some { cls := .type "tuple", data := .seq vs.toArray }
  its : ∀ (j : Nat) (l : Addr), ls[j]? = some l → h.IsListIter (n0 + j) l (if j < k then i + 1 else i)
theorem nn {a b : Nat} (h : a ≠ b) : @Ne Addr a b := h
theorem iter_of {h h' : Heap} {a l : Addr} {i : Nat} (x : h.IsListIter a l i) (e : h'.get? a = h.get? a) : h'.IsListIter a l i := x.at fun o q => by rw [e]; exact q
theorem list_of {h h' : Heap} {a : Addr} {items : Array Value} (x : h.IsList a items) (e : h'.get? a = h.get? a) : h'.IsList a items := x.at fun o q => by rw [e]; exact q
theorem take_set {us vs : List Value} {k : Nat} {u : Value} (hl : vs.length = us.length) (ht : vs.take k = us.take k) (hu : us[k]? = some u) : (vs.set k u).take (k + 1) = us.take (k + 1) := by
  have hk : k < us.length := (List.getElem?_eq_some_iff.mp hu).1
  apply List.ext_getElem?
  intro j
  by_cases hj : j < k + 1
  · rw [List.getElem?_take_of_lt hj, List.getElem?_take_of_lt hj]
    by_cases e : j = k
    · subst e
      rw [List.getElem?_set_self (by omega), hu]
    · rw [List.getElem?_set_ne (fun z => e z.symm)]
      have := congrArg (fun l => l[j]?) ht
      simpa [List.getElem?_take_of_lt (show j < k by omega)] using this
  · rw [List.getElem?_take_eq_none (by omega), List.getElem?_take_eq_none (by omega)]
/-- one step of a free turn -/
theorem FS.step {n0 : Nat} {ls : List Addr} {us : List Value} {i k : Nat} {f : Bool} {h0 h h2 h3 : Heap} {u : Value} (F : FS n0 ls us i f h0 k h) (hk : k < ls.length) (hl : us.length = ls.length) (hu : us[k]? = some u) {l : Addr} (hll : ls[k]? = some l)
    (h2i : h2.IsListIter (n0 + k) l (i + 1)) (s2 : Heap.SameBut (n0 + k) h h2) {vs : List Value} (hvl : vs.length = ls.length) (hvt : vs.take k = us.take k) (s3 : Heap.SameBut (n0 + ls.length + 1) h2 h3)
    (e3 : h3.get? (n0 + ls.length + 1) = some { cls := .type "tuple", data := .seq (vs.set k u).toArray }) : FS n0 ls us i f h0 (k + 1) h3 := by
  refine ⟨by rw [s3.1, s2.1, F.sz], fun c hc => ?_, ?_, ?_, ⟨vs.set k u, by rw [List.length_set, hvl], take_set (by rw [hvl, hl]) hvt hu, e3⟩, fun j l' hj => ?_⟩
  · have h1 : (c : Nat) ≠ n0 + ls.length + 1 := by unfold Out at hc; omega
    have h2 : (c : Nat) ≠ n0 + k := by unfold Out at hc; omega
    rw [s3.2 c h1, s2.2 c h2, F.out c hc]
  · rw [s3.2 _ (nn (by omega)), s2.2 _ (nn (by omega))]; exact F.z
  · rw [s3.2 _ (nn (by omega)), s2.2 _ (nn (by omega))]; exact F.ti
  · have hjl : j < ls.length := (List.getElem?_eq_some_iff.mp hj).1
    by_cases e : j = k
    · subst e
      rw [hll] at hj
      cases hj
      rw [if_pos (by omega)]
      exact iter_of h2i (s3.2 _ (nn (by omega)))
    · have := F.its j l' hj
      have q : h3.get? (n0 + j) = h.get? (n0 + j) := by rw [s3.2 _ (nn (by omega)), s2.2 _ (nn (by omega))]
      by_cases hlt : j < k
      · rw [if_pos hlt] at this
        rw [if_pos (by omega)]
        exact iter_of this q
      · rw [if_neg hlt] at this
        rw [if_neg (by omega)]
        exact iter_of this q
/-- within a turn whose tuple is still out -/
structure HS (n0 : Nat) (ls : List Addr) (i : Nat) (x0 : Value) (f : Bool) (h0 : Heap) (k : Nat) (h : Heap) : Prop where
  sz : h.objs.size = h0.objs.size
  out : ∀ c : Nat, Out n0 ls.length c → h.get? c = h0.get? c
  z : h.get? (n0 + ls.length + 2) = some { cls := .type "zip", dict := none, data := .fields #[x0, .bool f, .bool false, .ref (n0 + ls.length), .ref (n0 + ls.length + 1)], slots := #[] }
  ti : h.get? (n0 + ls.length) = some { cls := .type "tuple", data := .seq ((List.range ls.length).map fun j => Value.ref (n0 + j)).toArray }
  to : ∃ vs : List Value, vs.length = ls.length ∧ h.get? (n0 + ls.length + 1) = some { cls := .type "tuple", data := .seq vs.toArray }
  its : ∀ (j : Nat) (l : Addr), ls[j]? = some l → h.IsListIter (n0 + j) l (if j < k then i + 1 else i)
theorem HS.step {n0 : Nat} {ls : List Addr} {i k : Nat} {x0 : Value} {f : Bool} {h0 h h2 : Heap} (F : HS n0 ls i x0 f h0 k h) (hk : k < ls.length) {l : Addr} (hll : ls[k]? = some l)
    (h2i : h2.IsListIter (n0 + k) l (i + 1)) (s2 : Heap.SameBut (n0 + k) h h2) : HS n0 ls i x0 f h0 (k + 1) h2 := by
  obtain ⟨vs, hvl, e⟩ := F.to
  refine ⟨by rw [s2.1, F.sz], fun c hc => ?_, ?_, ?_, ⟨vs, hvl, ?_⟩, fun j l' hj => ?_⟩
  · have h2 : (c : Nat) ≠ n0 + k := by unfold Out at hc; omega
    rw [s2.2 c h2, F.out c hc]
  · rw [s2.2 _ (nn (by omega))]; exact F.z
  · rw [s2.2 _ (nn (by omega))]; exact F.ti
  · rw [s2.2 _ (nn (by omega))]; exact e
  · have hjl : j < ls.length := (List.getElem?_eq_some_iff.mp hj).1
    by_cases e : j = k
    · subst e
      rw [hll] at hj
      cases hj
      rw [if_pos (by omega)]
      exact h2i
    · have := F.its j l' hj
      have q : h2.get? (n0 + j) = h.get? (n0 + j) := s2.2 _ (nn (by omega))
      by_cases hlt : j < k
      · rw [if_pos hlt] at this
        rw [if_pos (by omega)]
        exact iter_of this q
      · rw [if_neg hlt] at this
        rw [if_neg (by omega)]
        exact iter_of this q
end
theorem drop_cons {α : Type} {x : α} {rest l : List α} {k : Nat} (e : x :: rest = l.drop k) : l[k]? = some x ∧ rest = l.drop (k + 1) := by
  constructor
  · have := congrArg (fun q => q[0]?) e
    simpa using this.symm
  · have := congrArg List.tail e
    simpa [List.tail_drop] using this
theorem zi_at {n n0 k : Nat} {x : Value × Nat} (h : (((List.range n).map fun j => Value.ref (n0 + j)).zipIdx)[k]? = some x) : k < n ∧ x = (Value.ref (n0 + k), k) := by
  rw [List.getElem?_zipIdx, List.getElem?_map] at h
  by_cases hk : k < n
  · rw [List.getElem?_range hk] at h
    simp at h
    exact ⟨hk, h.symm⟩
  · rw [List.getElem?_eq_none (by simpa using hk)] at h
    cases h
theorem it_at {n n0 k : Nat} {x : Value} (h : ((List.range n).map fun j => Value.ref (n0 + j))[k]? = some x) : k < n ∧ x = Value.ref (n0 + k) := by
  rw [List.getElem?_map] at h
  by_cases hk : k < n
  · rw [List.getElem?_range hk] at h
    simp at h
    exact ⟨hk, h.symm⟩
  · rw [List.getElem?_eq_none (by simpa using hk)] at h
    cases h
section
variable {prog : Program} {w : World} {A : Around} {E : Value → Shared → Prop} {s : Shared}
theorem alive {a : Addr} {Q : Option Obj → Shared → Prop} (h : Q (s.heap.get? a) s) : wpAny (model prog w) A (loadIfAlive a) Q E s := fun _ _ _ => h
/-- what is asked of the lists: all have an item at i; or one has none -/
def Has (h : Heap) (ls : List Addr) (i : Nat) (us : List Value) : Prop := ∀ (j : Nat) (l : Addr) (u : Value), ls[j]? = some l → us[j]? = some u → ∃ xs : Array Value, h.IsList l xs ∧ xs[i]? = some u
theorem next_item {n0 : Nat} {ls : List Addr} {us : List Value} {i : Nat} {Q : Value → Shared → Prop} (hne : ls ≠ []) (hsz : ls.length ≤ 1000000) (st : ZS n0 ls i s.heap) (hl : us.length = ls.length) (low : ∀ l ∈ ls, (l : Nat) < n0)
    (hi : Has s.heap ls i us)
    (hQ : ∀ h', ZS n0 ls (i + 1) h' → h'.get? s.heap.objs.size = some { cls := .type "tuple", data := .seq us.toArray } → h'.objs.size = s.heap.objs.size + 1 →
      (∀ c : Nat, Out n0 ls.length c → ∀ o, s.heap.get? c = some o → h'.get? c = some o) → Q (.ref s.heap.objs.size) { s with heap := h' }) :
    wpAny (model prog w) A (Builtin.«zip.__next__» ⟨[.ref (n0 + ls.length + 2)], []⟩) (fun fin s' => ∃ v, fin = .done (.ret v) ∧ Q v s') E s := by
  obtain ⟨⟨x0, f, hx0, hz⟩, hTI, ⟨vs, hvl, hTO⟩, hits⟩ := st
  have hnz : 0 < ls.length := by cases ls with | nil => exact absurd rfl hne | cons a r => exact Nat.succ_pos _
  have hb : s.heap.objs.size > n0 + ls.length + 2 := Heap.lt_size hz
  show wpAny _ _ (field (.ref (n0 + ls.length + 2)) 2 >>= _) _ _ _
  refine wpAny_bind (wpAny_field hz rfl (x := .bool false) rfl ?_)
  show wpAny _ _ (field (.ref (n0 + ls.length + 2)) 3 >>= _) _ _ _
  refine wpAny_bind (wpAny_field hz rfl (x := .ref (n0 + ls.length)) rfl ?_)
  refine wpAny_bind (wpAny_seqItems hTI rfl ?_)
  have hemp : (((List.range ls.length).map fun j => Value.ref (n0 + j)).toArray).isEmpty = false := by
    simp
    intro z; exact hne z
  simp only []
  rw [if_neg (by rw [hemp]; exact Bool.false_ne_true)]
  show wpAny _ _ (Builtin.SmallTypes.ownedTupleIsFree (.ref (n0 + ls.length + 2)) >>= _) _ _ _
  refine wpAny_bind ?_
  -- two ways
  refine wpAny_mono (Q := fun b s' => (b = true ∧ s' = s) ∨ (b = false ∧ ∃ h f', s' = { s with heap := h } ∧ Heap.SameBut (n0 + ls.length + 2) s.heap h ∧ h.get? (n0 + ls.length + 2) = some { cls := .type "zip", dict := none, data := .fields #[x0, .bool f', .bool false, .ref (n0 + ls.length), .ref (n0 + ls.length + 1)], slots := #[] })) (E := fun _ _ => False) ?_ ?_ (fun _ _ z => z.elim)
  · unfold Builtin.SmallTypes.ownedTupleIsFree
    rcases hx0 with rfl | ⟨T, rfl⟩
    · exact wpAny_bind (wpAny_field hz rfl (x := .none) rfl (wpAny_pure (.inl ⟨rfl, rfl⟩)))
    · refine wpAny_bind (wpAny_field hz rfl (x := rawInt T) rfl ?_)
      show wpAny _ _ (loadIfAlive ((T : Int).toNat) >>= _) _ _ _
      rw [Int.toNat_natCast]
      refine wpAny_bind ?_
      cases hT : s.heap.get? T with
      | none =>
        refine alive ?_
        rw [hT]
        simp only [Option.isNone_none, if_true]
        exact wpAny_pure (.inl ⟨rfl, rfl⟩)
      | some oT =>
        refine alive ?_
        rw [hT]
        simp only [Option.isNone_some, Bool.false_eq_true, if_false]
        refine wpAny_bind (wpAny_field hz rfl (x := .bool f) rfl ?_)
        cases f with
        | true =>
          rw [if_neg (show ¬ ((Value.bool true != Value.bool true) = true) from Bool.false_ne_true)]
          exact wpAny_pure (.inr ⟨rfl, s.heap, true, rfl, Heap.SameBut.refl _ _, hz⟩)
        | false =>
          rw [if_pos (show (Value.bool false != Value.bool true) = true from rfl)]
          exact wpAny_bind (wpAny_setField_rec hz (by simp) fun h₁ hz₁ hs₁ => wpAny_pure (.inr ⟨rfl, h₁, true, rfl, hs₁, hz₁⟩))
  rintro b s1 (⟨rfl, rfl⟩ | ⟨rfl, h₀, f', rfl, hs₀, hz₀⟩)
  · -- the tuple is free
    simp only [if_true]
    refine wpAny_bind (wpAny_rule ?_)
    refine wpAny_bind (wpAny_field hz rfl (x := .ref (n0 + ls.length + 1)) rfl ?_)
    refine wpAny_bind (wpAny_setField_rec hz (by simp) fun h₁ hz₁ hs₁ => ?_)
    refine wpAny_bind ?_
    have F0 : FS n0 ls us i f s1.heap 0 h₁ := by
      refine ⟨hs₁.1, fun c hc => hs₁.2 c (nn (by unfold Out at hc; omega)), hz₁, ?_, ⟨vs, hvl, by simp, ?_⟩, fun j l hj => ?_⟩
      · rw [hs₁.2 _ (nn (by omega))]; exact hTI
      · rw [hs₁.2 _ (nn (by omega))]; exact hTO
      · have hjl : j < ls.length := (List.getElem?_eq_some_iff.mp hj).1
        rw [if_neg (Nat.not_lt_zero _)]
        exact iter_of (hits j l hj) (hs₁.2 _ (nn (by omega)))
    refine wpAny_forIn_list _ (fun rest b s' => ∃ k h, b = (none, ()) ∧ rest = (((List.range ls.length).map fun j => Value.ref (n0 + j)).zipIdx).drop k ∧ k ≤ ls.length ∧ s' = { s1 with heap := h } ∧ FS n0 ls us i f s1.heap k h) _ ?_ ?_ _ _ ⟨0, h₁, rfl, rfl, Nat.zero_le _, rfl, F0⟩
    · rintro x rest b _ ⟨k, h, rfl, hrest, hk, rfl, F⟩
      obtain ⟨hx, hr⟩ := drop_cons hrest
      obtain ⟨hkl, rfl⟩ := zi_at hx
      obtain ⟨l, hll⟩ : ∃ l, ls[k]? = some l := ⟨_, List.getElem?_eq_getElem hkl⟩
      obtain ⟨u, hu⟩ : ∃ u, us[k]? = some u := ⟨_, List.getElem?_eq_getElem (by omega)⟩
      obtain ⟨xs, hxs, hxi⟩ := hi k l u hll hu
      have lo := low l (List.mem_of_getElem? hll)
      have hit := F.its k l hll
      rw [if_neg (Nat.lt_irrefl _)] at hit
      refine wpAny_bind (wpAny_onRaise ?_)
      show wpAny _ _ (Builtin.SmallTypes.nextOf (.ref (n0 + k)) >>= _) _ _ _
      refine wpAny_bind (wpAny_nextOf_list_item hit (list_of hxs (F.out l (.inl lo))) hxi fun h₂ h2i hs₂ => wpAny_pure ?_)
      obtain ⟨vs', hvl', hvt', hto'⟩ := F.to
      have hto2 : h₂.get? (n0 + ls.length + 1) = some { cls := .type "tuple", data := .seq vs'.toArray } := by rw [hs₂.2 _ (nn (by omega))]; exact hto'
      refine wpAny_bind (wpAny_seqItems hto2 rfl ?_)
      refine wpAny_bind (wpAny_updateSeq hto2 rfl ?_ (by simp [hvl']; show _ ≤ sizeLine; unfold sizeLine; omega) (by simp [hvl']; show _ ≤ sizeLine + 1; unfold sizeLine; omega))
      refine wpAny_bind (wpAny_letGo (wpAny_pure ?_))
      refine ⟨k + 1, _, rfl, hr, hkl, rfl, F.step hkl hl hu hll h2i hs₂ hvl' hvt' (Heap.SameBut.update ..) ?_⟩
      rw [Heap.get?_update_self _ hto2 rfl]
      simp [Obj.mapSeq]
    · rintro b _ ⟨k, h, rfl, hrest, hk, rfl, F⟩
      have hkn : k = ls.length := by
        have := congrArg List.length hrest
        simp at this
        omega
      subst hkn
      obtain ⟨vs', hvl', hvt', hto'⟩ := F.to
      have hvu : vs' = us := by rw [List.take_of_length_le (by omega), List.take_of_length_le (by omega)] at hvt'; exact hvt'
      subst hvu
      refine wpAny_bind (wpAny_seqItems hto' rfl ?_)
      refine wpAny_bind (wpAny_newTuple ?_ (by simp [hvl']; unfold sizeLine; omega))
      show wpAny _ _ (Builtin.SmallTypes.ownedTupleHandOut (.ref (n0 + ls.length + 2)) (.ref h.objs.size) >>= _) _ _ _
      refine wpAny_bind ?_
      unfold Builtin.SmallTypes.ownedTupleHandOut
      have hz₆ := Heap.get?_push_of_some { cls := .type "tuple", data := .seq vs'.toArray } F.z
      have hTT : (h.push { cls := .type "tuple", data := .seq vs'.toArray }).get? h.objs.size = some { cls := .type "tuple", data := .seq vs'.toArray } := Heap.get?_push_size _ rfl
      refine wpAny_bind (wpAny_setField_rec (s := { s1 with heap := h.push _ }) hz₆ (by simp) fun h₇ hz₇ hs₇ => ?_)
      refine wpAny_setField_rec (s := { s1 with heap := h₇ }) hz₇ (by simp) fun h₈ hz₈ hs₈ => ?_
      have hsz' : h.objs.size = s1.heap.objs.size := F.sz
      have up : ∀ c : Nat, c ≠ n0 + ls.length + 2 → ∀ o, h.get? c = some o → h₈.get? c = some o := fun c c1 o e => by
        rw [hs₈.2 c (nn c1), hs₇.2 c (nn c1)]
        exact Heap.get?_push_of_some _ e
      refine wpAny_pure ⟨_, rfl, ?_⟩
      show Q (.ref h.objs.size) _
      rw [hsz']
      refine hQ h₈ ⟨⟨_, _, .inr ⟨_, rfl⟩, hz₈⟩, up _ (by omega) _ F.ti, ⟨vs', hvl', up _ (by omega) _ hto'⟩, fun j l hj => ?_⟩ ?_ ?_ ?_
      · have hjl : j < ls.length := (List.getElem?_eq_some_iff.mp hj).1
        have := F.its j l hj
        rw [if_pos hjl] at this
        exact this.at fun o q => up _ (by omega) _ q
      · rw [← hsz', hs₈.2 _ (nn (by omega)), hs₇.2 _ (nn (by omega))]
        exact hTT
      · rw [hs₈.1, hs₇.1, Heap.size_push, hsz']
      · intro c hc o q
        have hc' := hc
        unfold Out at hc
        exact up c (by omega) o (by rw [F.out c hc']; exact q)
  · simp only [Bool.false_eq_true, if_false]
    refine wpAny_bind ?_
    have F0 : HS n0 ls i x0 f' s.heap 0 h₀ := by
      refine ⟨hs₀.1, fun c hc => hs₀.2 c (nn (by unfold Out at hc; omega)), hz₀, ?_, ⟨vs, hvl, ?_⟩, fun j l hj => ?_⟩
      · rw [hs₀.2 _ (nn (by omega))]; exact hTI
      · rw [hs₀.2 _ (nn (by omega))]; exact hTO
      · have hjl : j < ls.length := (List.getElem?_eq_some_iff.mp hj).1
        rw [if_neg (Nat.not_lt_zero _)]
        exact iter_of (hits j l hj) (hs₀.2 _ (nn (by omega)))
    rw [← Array.forIn_toList]
    refine wpAny_forIn_list _ (fun rest b s' => ∃ k h, b = (none, (us.take k).toArray) ∧ rest = ((List.range ls.length).map fun j => Value.ref (n0 + j)).drop k ∧ k ≤ ls.length ∧ s' = { s with heap := h } ∧ HS n0 ls i x0 f' s.heap k h) _ ?_ ?_ _ _ ⟨0, h₀, by simp, by simp, Nat.zero_le _, rfl, F0⟩
    · rintro x rest b _ ⟨k, h, rfl, hrest, hk, rfl, F⟩
      obtain ⟨hx, hr⟩ := drop_cons hrest
      obtain ⟨hkl, rfl⟩ := it_at hx
      obtain ⟨l, hll⟩ : ∃ l, ls[k]? = some l := ⟨_, List.getElem?_eq_getElem hkl⟩
      obtain ⟨u, hu⟩ : ∃ u, us[k]? = some u := ⟨_, List.getElem?_eq_getElem (by omega)⟩
      obtain ⟨xs, hxs, hxi⟩ := hi k l u hll hu
      have lo := low l (List.mem_of_getElem? hll)
      have hit := F.its k l hll
      rw [if_neg (Nat.lt_irrefl _)] at hit
      refine wpAny_bind (wpAny_holding ?_)
      show wpAny _ _ (Builtin.SmallTypes.nextOf (.ref (n0 + k)) >>= _) _ _ _
      refine wpAny_bind (wpAny_nextOf_list_item hit (list_of hxs (F.out l (.inl lo))) hxi fun h₂ h2i hs₂ => wpAny_pure ?_)
      refine wpAny_pure ⟨k + 1, h₂, ?_, hr, hkl, rfl, F.step hkl hll h2i hs₂⟩
      rw [List.take_succ, hu]
      simp
    · rintro b _ ⟨k, h, rfl, hrest, hk, rfl, F⟩
      have hkn : k = ls.length := by
        have := congrArg List.length hrest
        simp at this
        omega
      subst hkn
      have hut : us.take ls.length = us := List.take_of_length_le (by omega)
      rw [hut]
      refine wpAny_bind (wpAny_newTuple ?_ (by simp [hl]; unfold sizeLine; omega))
      refine wpAny_pure ⟨_, rfl, ?_⟩
      have hsz' : h.objs.size = s.heap.objs.size := F.sz
      show Q (.ref h.objs.size) _
      have hT : (h.push { cls := .type "tuple", data := .seq us.toArray }).get? h.objs.size = some { cls := .type "tuple", data := .seq us.toArray } := Heap.get?_push_size _ rfl
      have up : ∀ (c : Nat) o, h.get? c = some o → (h.push { cls := .type "tuple", data := .seq us.toArray }).get? c = some o := fun c o e => Heap.get?_push_of_some _ e
      rw [hsz']
      obtain ⟨vs', hvl', hto'⟩ := F.to
      refine hQ (h.push { cls := .type "tuple", data := .seq us.toArray }) ⟨⟨x0, f', hx0, up _ _ F.z⟩, up _ _ F.ti, ⟨vs', hvl', up _ _ hto'⟩, fun j l hj => ?_⟩ ?_ ?_ ?_
      · have hjl : j < ls.length := (List.getElem?_eq_some_iff.mp hj).1
        have := F.its j l hj
        rw [if_pos hjl] at this
        exact this.at fun o q => up _ _ q
      · rw [← hsz']
        exact hT
      · rw [Heap.size_push, hsz']
      · intro c hc o q
        exact up c o (by rw [F.out c hc]; exact q)
theorem HS.step2 {n0 : Nat} {ls : List Addr} {i k : Nat} {x0 : Value} {f : Bool} {h0 h h2 h3 : Heap} (F : HS n0 ls i x0 f h0 k h) (hk : k < ls.length) {l : Addr} (hll : ls[k]? = some l)
    (h2i : h2.IsListIter (n0 + k) l (i + 1)) (s2 : Heap.SameBut (n0 + k) h h2) (s3 : Heap.SameBut (n0 + ls.length + 1) h2 h3) {vs : List Value} (hvl : vs.length = ls.length) (e3 : h3.get? (n0 + ls.length + 1) = some { cls := .type "tuple", data := .seq vs.toArray }) : HS n0 ls i x0 f h0 (k + 1) h3 := by
  have G := F.step hk hll h2i s2
  refine ⟨by rw [s3.1, G.sz], fun c hc => ?_, ?_, ?_, ⟨vs, hvl, e3⟩, fun j l' hj => ?_⟩
  · rw [s3.2 c (nn (by unfold Out at hc; omega)), G.out c hc]
  · rw [s3.2 _ (nn (by omega))]; exact G.z
  · rw [s3.2 _ (nn (by omega))]; exact G.ti
  · have hjl : j < ls.length := (List.getElem?_eq_some_iff.mp hj).1
    exact iter_of (G.its j l' hj) (s3.2 _ (nn (by omega)))
theorem next_end {n0 : Nat} {ls : List Addr} {i : Nat} {Q : Fin → Shared → Prop} (hh : A.handled = none) (hsz : ls.length ≤ 1000000) (st : ZS n0 ls i s.heap) (low : ∀ l ∈ ls, (l : Nat) < n0)
    (hls : ∀ (j : Nat) (l : Addr), ls[j]? = some l → ∃ xs : Array Value, s.heap.IsList l xs) (hend : ∃ (j : Nat) (l : Addr), ls[j]? = some l ∧ ∀ xs : Array Value, s.heap.IsList l xs → xs[i]? = none)
    (hE : ∀ h' e, (∀ c : Nat, Out n0 ls.length c → ∀ o, s.heap.get? c = some o → h'.get? c = some o) → (∃ o, h'.get? e = some o ∧ o.cls = .type "StopIteration") → E (.ref e) { s with heap := h' }) :
    wpAny (model prog w) A (Builtin.«zip.__next__» ⟨[.ref (n0 + ls.length + 2)], []⟩) Q E s := by
  obtain ⟨⟨x0, f, hx0, hz⟩, hTI, ⟨vs, hvl, hTO⟩, hits⟩ := st
  obtain ⟨jm, lm, hjm, hnone⟩ := hend
  have hjml : jm < ls.length := (List.getElem?_eq_some_iff.mp hjm).1
  have hb : s.heap.objs.size > n0 + ls.length + 2 := Heap.lt_size hz
  show wpAny _ _ (field (.ref (n0 + ls.length + 2)) 2 >>= _) _ _ _
  refine wpAny_bind (wpAny_field hz rfl (x := .bool false) rfl ?_)
  show wpAny _ _ (field (.ref (n0 + ls.length + 2)) 3 >>= _) _ _ _
  refine wpAny_bind (wpAny_field hz rfl (x := .ref (n0 + ls.length)) rfl ?_)
  refine wpAny_bind (wpAny_seqItems hTI rfl ?_)
  have hemp : (((List.range ls.length).map fun j => Value.ref (n0 + j)).toArray).isEmpty = false := by
    simp
    intro z; subst z; exact Nat.not_lt_zero _ hjml
  simp only []
  rw [if_neg (by rw [hemp]; exact Bool.false_ne_true)]
  show wpAny _ _ (Builtin.SmallTypes.ownedTupleIsFree (.ref (n0 + ls.length + 2)) >>= _) _ _ _
  refine wpAny_bind ?_
  refine wpAny_mono (Q := fun b s' => (b = true ∧ s' = s) ∨ (b = false ∧ ∃ h f', s' = { s with heap := h } ∧ Heap.SameBut (n0 + ls.length + 2) s.heap h ∧ h.get? (n0 + ls.length + 2) = some { cls := .type "zip", dict := none, data := .fields #[x0, .bool f', .bool false, .ref (n0 + ls.length), .ref (n0 + ls.length + 1)], slots := #[] })) (E := fun _ _ => False) ?_ ?_ (fun _ _ z => z.elim)
  · unfold Builtin.SmallTypes.ownedTupleIsFree
    rcases hx0 with rfl | ⟨T, rfl⟩
    · exact wpAny_bind (wpAny_field hz rfl (x := .none) rfl (wpAny_pure (.inl ⟨rfl, rfl⟩)))
    · refine wpAny_bind (wpAny_field hz rfl (x := rawInt T) rfl ?_)
      show wpAny _ _ (loadIfAlive ((T : Int).toNat) >>= _) _ _ _
      rw [Int.toNat_natCast]
      refine wpAny_bind ?_
      cases hT : s.heap.get? T with
      | none =>
        refine alive ?_
        rw [hT]
        simp only [Option.isNone_none, if_true]
        exact wpAny_pure (.inl ⟨rfl, rfl⟩)
      | some oT =>
        refine alive ?_
        rw [hT]
        simp only [Option.isNone_some, Bool.false_eq_true, if_false]
        refine wpAny_bind (wpAny_field hz rfl (x := .bool f) rfl ?_)
        cases f with
        | true =>
          rw [if_neg (show ¬ ((Value.bool true != Value.bool true) = true) from Bool.false_ne_true)]
          exact wpAny_pure (.inr ⟨rfl, s.heap, true, rfl, Heap.SameBut.refl _ _, hz⟩)
        | false =>
          rw [if_pos (show (Value.bool false != Value.bool true) = true from rfl)]
          exact wpAny_bind (wpAny_setField_rec hz (by simp) fun h₁ hz₁ hs₁ => wpAny_pure (.inr ⟨rfl, h₁, true, rfl, hs₁, hz₁⟩))
  rintro b s1 (⟨rfl, rfl⟩ | ⟨rfl, h₀, f', rfl, hs₀, hz₀⟩)
  · simp only [if_true]
    refine wpAny_bind (wpAny_rule ?_)
    refine wpAny_bind (wpAny_field hz rfl (x := .ref (n0 + ls.length + 1)) rfl ?_)
    refine wpAny_bind (wpAny_setField_rec hz (by simp) fun h₁ hz₁ hs₁ => ?_)
    refine wpAny_bind ?_
    have F0 : HS n0 ls i .ellipsis f s1.heap 0 h₁ := by
      refine ⟨hs₁.1, fun c hc => hs₁.2 c (nn (by unfold Out at hc; omega)), hz₁, ?_, ⟨vs, hvl, ?_⟩, fun j l hj => ?_⟩
      · rw [hs₁.2 _ (nn (by omega))]; exact hTI
      · rw [hs₁.2 _ (nn (by omega))]; exact hTO
      · have hjl : j < ls.length := (List.getElem?_eq_some_iff.mp hj).1
        rw [if_neg (Nat.not_lt_zero _)]
        exact iter_of (hits j l hj) (hs₁.2 _ (nn (by omega)))
    refine wpAny_forIn_list _ (fun rest b s' => ∃ k h, b = (none, ()) ∧ rest = (((List.range ls.length).map fun j => Value.ref (n0 + j)).zipIdx).drop k ∧ k ≤ jm ∧ s' = { s1 with heap := h } ∧ HS n0 ls i .ellipsis f s1.heap k h) _ ?_ ?_ _ _ ⟨0, h₁, rfl, rfl, Nat.zero_le _, rfl, F0⟩
    · rintro x rest b _ ⟨k, h, rfl, hrest, hk, rfl, F⟩
      obtain ⟨hx, hr⟩ := drop_cons hrest
      obtain ⟨hkl, rfl⟩ := zi_at hx
      obtain ⟨l, hll⟩ : ∃ l, ls[k]? = some l := ⟨_, List.getElem?_eq_getElem hkl⟩
      obtain ⟨xs, hxs⟩ := hls k l hll
      have lo := low l (List.mem_of_getElem? hll)
      have hit := F.its k l hll
      rw [if_neg (Nat.lt_irrefl _)] at hit
      refine wpAny_bind (wpAny_onRaise ?_)
      show wpAny _ _ (Builtin.SmallTypes.nextOf (.ref (n0 + k)) >>= _) _ _ _
      cases hxi : xs[i]? with
      | none =>
        refine wpAny_bind (wpAny_nextOf_list_end hh hit (list_of hxs (F.out l (.inl lo))) hxi fun h₂ e hs₂ he => ?_)
        obtain ⟨oe, hoe, hce⟩ := he
        have hz₂ := hs₂ _ _ (nn (show n0 + ls.length + 2 ≠ n0 + k by omega)) F.z
        have hez : e ≠ (n0 + ls.length + 2 : Nat) := fun x => by subst x; rw [hz₂] at hoe; cases hoe; simp at hce
        refine wpAny_setField_rec (s := { s1 with heap := h₂ }) hz₂ (by simp) fun h₃ _ hs₃ => hE h₃ e (fun c hc o q => ?_) ⟨oe, hs₃.extBut _ _ hez hoe, hce⟩
        have hc' := hc
        unfold Out at hc
        exact hs₃.extBut _ _ (nn (by omega)) (hs₂ _ _ (nn (by omega)) (by rw [F.out c hc']; exact q))
      | some u =>
        refine wpAny_bind (wpAny_nextOf_list_item hit (list_of hxs (F.out l (.inl lo))) hxi fun h₂ h2i hs₂ => wpAny_pure ?_)
        obtain ⟨vs', hvl', hto'⟩ := F.to
        have hto2 : h₂.get? (n0 + ls.length + 1) = some { cls := .type "tuple", data := .seq vs'.toArray } := by rw [hs₂.2 _ (nn (by omega))]; exact hto'
        refine wpAny_bind (wpAny_seqItems hto2 rfl ?_)
        refine wpAny_bind (wpAny_updateSeq hto2 rfl ?_ (by simp [hvl']; show _ ≤ sizeLine; unfold sizeLine; omega) (by simp [hvl']; show _ ≤ sizeLine + 1; unfold sizeLine; omega))
        refine wpAny_bind (wpAny_letGo (wpAny_pure ?_))
        have hkj : k ≠ jm := by
          rintro rfl
          rw [hll] at hjm
          cases hjm
          rw [hnone xs hxs] at hxi
          cases hxi
        refine ⟨k + 1, _, rfl, hr, by omega, rfl, F.step2 (vs := vs'.set k u) hkl hll h2i hs₂ (Heap.SameBut.update ..) (by rw [List.length_set, hvl']) ?_⟩
        rw [Heap.get?_update_self _ hto2 rfl]
        simp [Obj.mapSeq]
    · rintro b _ ⟨k, h, rfl, hrest, hk, rfl, F⟩
      have := congrArg List.length hrest
      simp at this
      omega
  · simp only [Bool.false_eq_true, if_false]
    refine wpAny_bind ?_
    have F0 : HS n0 ls i x0 f' s.heap 0 h₀ := by
      refine ⟨hs₀.1, fun c hc => hs₀.2 c (nn (by unfold Out at hc; omega)), hz₀, ?_, ⟨vs, hvl, ?_⟩, fun j l hj => ?_⟩
      · rw [hs₀.2 _ (nn (by omega))]; exact hTI
      · rw [hs₀.2 _ (nn (by omega))]; exact hTO
      · have hjl : j < ls.length := (List.getElem?_eq_some_iff.mp hj).1
        rw [if_neg (Nat.not_lt_zero _)]
        exact iter_of (hits j l hj) (hs₀.2 _ (nn (by omega)))
    rw [← Array.forIn_toList]
    refine wpAny_forIn_list _ (fun rest b s' => ∃ k h, b.1 = none ∧ rest = ((List.range ls.length).map fun j => Value.ref (n0 + j)).drop k ∧ k ≤ jm ∧ s' = { s with heap := h } ∧ HS n0 ls i x0 f' s.heap k h) _ ?_ ?_ _ _ ⟨0, h₀, rfl, by simp, Nat.zero_le _, rfl, F0⟩
    · rintro x rest b _ ⟨k, h, hb1, hrest, hk, rfl, F⟩
      obtain ⟨hx, hr⟩ := drop_cons hrest
      obtain ⟨hkl, rfl⟩ := it_at hx
      obtain ⟨l, hll⟩ : ∃ l, ls[k]? = some l := ⟨_, List.getElem?_eq_getElem hkl⟩
      obtain ⟨xs, hxs⟩ := hls k l hll
      have lo := low l (List.mem_of_getElem? hll)
      have hit := F.its k l hll
      rw [if_neg (Nat.lt_irrefl _)] at hit
      refine wpAny_bind (wpAny_holding ?_)
      show wpAny _ _ (Builtin.SmallTypes.nextOf (.ref (n0 + k)) >>= _) _ _ _
      cases hxi : xs[i]? with
      | none =>
        refine wpAny_bind (wpAny_nextOf_list_end hh hit (list_of hxs (F.out l (.inl lo))) hxi fun h₂ e hs₂ he => ?_)
        refine hE h₂ e (fun c hc o q => ?_) he
        have hc' := hc
        unfold Out at hc
        exact hs₂ _ _ (nn (by omega)) (by rw [F.out c hc']; exact q)
      | some u =>
        refine wpAny_bind (wpAny_nextOf_list_item hit (list_of hxs (F.out l (.inl lo))) hxi fun h₂ h2i hs₂ => wpAny_pure ?_)
        have hkj : k ≠ jm := by
          rintro rfl
          rw [hll] at hjm
          cases hjm
          rw [hnone xs hxs] at hxi
          cases hxi
        exact wpAny_pure ⟨k + 1, h₂, rfl, hr, by omega, rfl, F.step hkl hll h2i hs₂⟩
    · rintro b _ ⟨k, h, hb1, hrest, hk, rfl, F⟩
      have := congrArg List.length hrest
      simp at this
      omega
end
section
theorem typeCall_4 : ∀ vs : List Value, vs.length = 4 → checkTypeCall "zip" ⟨vs, []⟩ = pure ()
  | [a, b, c, d], _ => by kernel_rfl
theorem typeCall_6 : ∀ vs : List Value, vs.length = 6 → checkTypeCall "zip" ⟨vs, []⟩ = pure ()
  | [a, b, c, d, e, f], _ => by kernel_rfl
theorem typeCall_8 : ∀ vs : List Value, vs.length = 8 → checkTypeCall "zip" ⟨vs, []⟩ = pure ()
  | [a, b, c, d, e, f, g, h], _ => by kernel_rfl
theorem newCall_4 : ∀ vs : List Value, vs.length = 4 → checkBuiltinCall "zip.__new__" ⟨.type "zip" :: vs, []⟩ = pure ()
  | [a, b, c, d], _ => by kernel_rfl
theorem newCall_6 : ∀ vs : List Value, vs.length = 6 → checkBuiltinCall "zip.__new__" ⟨.type "zip" :: vs, []⟩ = pure ()
  | [a, b, c, d, e, f], _ => by kernel_rfl
theorem newCall_8 : ∀ vs : List Value, vs.length = 8 → checkBuiltinCall "zip.__new__" ⟨.type "zip" :: vs, []⟩ = pure ()
  | [a, b, c, d, e, f, g, h], _ => by kernel_rfl
theorem init_4 (o : Value) : ∀ vs : List Value, vs.length = 4 → argsOk "object.__init__" ⟨o :: vs, []⟩
  | [a, b, c, d], _ => by
    unfold argsOk; rw [signature?_of (id := "object.__init__") (n := ['_', '_', 't', 'i', 'n', 'i', '_', '_']) (o := ['t', 'c', 'e', 'j', 'b', 'o']) (by kernel_rfl) F.owner_object]; kernel_rfl
theorem init_6 (o : Value) : ∀ vs : List Value, vs.length = 6 → argsOk "object.__init__" ⟨o :: vs, []⟩
  | [a, b, c, d, e, f], _ => by
    unfold argsOk; rw [signature?_of (id := "object.__init__") (n := ['_', '_', 't', 'i', 'n', 'i', '_', '_']) (o := ['t', 'c', 'e', 'j', 'b', 'o']) (by kernel_rfl) F.owner_object]; kernel_rfl
theorem init_8 (o : Value) : ∀ vs : List Value, vs.length = 8 → argsOk "object.__init__" ⟨o :: vs, []⟩
  | [a, b, c, d, e, f, g, h], _ => by
    unfold argsOk; rw [signature?_of (id := "object.__init__") (n := ['_', '_', 't', 'i', 'n', 'i', '_', '_']) (o := ['t', 'c', 'e', 'j', 'b', 'o']) (by kernel_rfl) F.owner_object]; kernel_rfl
end
end Vz
namespace Vz
open PySem PySem.Spec PyProof.Rows L2
section
variable {prog : Program} {w : World} {A : Around} {E : Value → Shared → Prop} {s : Shared}
/-- the iterators of the lists, one after the other -/
theorem iterAll_lists (ls : List Addr) (hl : ∀ l ∈ ls, ∃ xs : Array Value, s.heap.IsList l xs) :
    wpAny (model prog w) A (Builtin.SmallTypes.iterAll (ls.map Value.ref)) (fun its s' => its = (List.range ls.length).map (fun j => Value.ref (s.heap.objs.size + j)) ∧ ∃ h1, s' = { s with heap := h1 } ∧ h1.objs.size = s.heap.objs.size + ls.length ∧
      (∀ c o, s.heap.get? c = some o → h1.get? c = some o) ∧ ∀ (j : Nat) (l : Addr), ls[j]? = some l → h1.IsListIter ((s.heap.objs.size + j : Nat)) l 0) (fun _ _ => False) s := by
  unfold Builtin.SmallTypes.iterAll
  refine wpAny_bind ?_
  refine wpAny_forIn_list _ (fun rest b s' => ∃ k h1, b = ((List.range k).map (fun j => Value.ref (s.heap.objs.size + j))).toArray ∧ rest = (ls.map Value.ref).drop k ∧ k ≤ ls.length ∧ s' = { s with heap := h1 } ∧ h1.objs.size = s.heap.objs.size + k ∧ (∀ c o, s.heap.get? c = some o → h1.get? c = some o) ∧ ∀ (j : Nat) (l : Addr), j < k → ls[j]? = some l → h1.IsListIter ((s.heap.objs.size + j : Nat)) l 0) _ ?_ ?_ _ _ ⟨0, s.heap, rfl, rfl, Nat.zero_le _, rfl, rfl, fun _ _ q => q, fun j l hj => absurd hj (Nat.not_lt_zero _)⟩
  · rintro x rest b _ ⟨k, h1, rfl, hrest, hk, rfl, hsz, hkp, hit⟩
    obtain ⟨hx, hr⟩ := drop_cons hrest
    rw [List.getElem?_map] at hx
    have hkl : k < ls.length := by
      by_cases q : k < ls.length
      · exact q
      · rw [List.getElem?_eq_none (by omega)] at hx; cases hx
    rw [List.getElem?_eq_getElem hkl] at hx
    obtain rfl : Value.ref ls[k] = x := by simpa using hx
    obtain ⟨xs, hxs⟩ := hl ls[k] (List.getElem_mem hkl)
    refine wpAny_bind (wpAny_holding ?_)
    refine wpAny_pyIter_list (s := { s with heap := h1 }) (hxs.at fun o q => hkp _ _ q) ?_
    refine wpAny_pure ⟨k + 1, _, ?_, hr, hkl, rfl, ?_, fun c o q => Heap.get?_push_of_some _ (hkp c o q), fun j l hj hjl => ?_⟩
    · rw [List.range_succ, List.map_append, hsz]
      simp
    · rw [Heap.size_push, hsz]; rfl
    · by_cases e : j = k
      · subst e
        rw [List.getElem?_eq_getElem hkl] at hjl
        cases hjl
        exact ⟨_, by rw [← hsz]; exact Heap.get?_push_size _ rfl, rfl, rfl⟩
      · exact (hit j l (by omega) hjl).at fun o q => Heap.get?_push_of_some _ q
  · rintro b _ ⟨k, h1, rfl, hrest, hk, rfl, hsz, hkp, hit⟩
    have hkn : k = ls.length := by
      have := congrArg List.length hrest
      simp at this
      omega
    subst hkn
    exact wpAny_pure ⟨by simp, h1, rfl, hsz, hkp, fun j l hj => hit j l (List.getElem?_eq_some_iff.mp hj).1 hj⟩
theorem zip_new_N (ls : List Addr) (hn : ls.length ≤ 1000000) : Meets (Builtin.«zip.__new__» ⟨.type "zip" :: ls.map Value.ref, []⟩) (fun _ R s => (∀ l ∈ ls, ∃ xs : Array Value, s.heap.IsList l xs) ∧
      ∀ h', ZS s.heap.objs.size ls 0 h' → (∀ c o, s.heap.get? c = some o → h'.get? c = some o) → R (.ok (.ret (.ref (s.heap.objs.size + ls.length + 2)))) { s with heap := h' }) :=
  .of_wp fun prog w A R s hh => by
    obtain ⟨hl, h⟩ := hh
    have hsub := sub_zip
    unfold Builtin.«zip.__new__»
    refine wpAny_bind ?_
    have hc : wpAny (model prog w) A.in1 (Builtin.SmallTypes.newClass "zip" ⟨.type "zip" :: ls.map Value.ref, []⟩) (fun r s' => r = (.type "zip", ls.map Value.ref) ∧ s' = s) (fun e s' => R (.error e) s') s := by
      unfold Builtin.SmallTypes.newClass
      repeat (any_goals (first | assumption | wp_step))
      exact ⟨rfl, rfl⟩
    refine wpAny_mono hc ?_ (fun _ _ z => z)
    rintro r s' ⟨rfl, rfl⟩
    show wpAny _ _ (Builtin.SmallTypes.iterAll (ls.map Value.ref) >>= fun its => newTuple its >>= fun t1 => newTuple (its.map fun _ => .none) >>= fun t2 => Builtin.SmallTypes.newRecord (.type "zip") (Builtin.SmallTypes.ownedTupleFields ++ [Value.bool false, t1, t2]) >>= fun r => ret r) _ _ _
    refine wpAny_bind ?_
    refine wpAny_mono (iterAll_lists ls hl) ?_ (fun _ _ z => z.elim)
    rintro its _ ⟨rfl, h1, rfl, hsz, hk, hit⟩
    refine wpAny_bind (wpAny_newTuple ?_ (by simp; unfold sizeLine; omega))
    refine wpAny_bind (wpAny_newTuple ?_ (by simp; unfold sizeLine; omega))
    refine wpAny_bind ?_
    unfold Builtin.SmallTypes.newRecord
    refine wpAny_newObj_type ?_ (by first | trivial | (simp only [sizeOk]; decide) | (simp [sizeOk]; decide))
    refine wpAny_pure ⟨_, rfl, ?_⟩
    generalize pA : h1.push { cls := .type "tuple", data := .seq ((List.range ls.length).map fun j => Value.ref (s'.heap.objs.size + j)).toArray } = hA
    have eA : hA.objs.size = s'.heap.objs.size + ls.length + 1 := by rw [← pA, Heap.size_push, hsz]
    have gA : hA.get? (s'.heap.objs.size + ls.length) = some { cls := .type "tuple", data := .seq ((List.range ls.length).map fun j => Value.ref (s'.heap.objs.size + j)).toArray } := by
      rw [← pA, ← hsz]; exact Heap.get?_push_size _ rfl
    have kA : ∀ c o, h1.get? c = some o → hA.get? c = some o := fun c o q => by rw [← pA]; exact Heap.get?_push_of_some _ q
    simp only [hsz, eA]
    generalize pB : hA.push { cls := .type "tuple", data := .seq (((List.range ls.length).map fun j => Value.ref (s'.heap.objs.size + j)).map fun _ => Value.none).toArray } = hB
    have eB : hB.objs.size = s'.heap.objs.size + ls.length + 2 := by rw [← pB, Heap.size_push, eA]
    have gB : hB.get? (s'.heap.objs.size + ls.length + 1) = some { cls := .type "tuple", data := .seq (((List.range ls.length).map fun j => Value.ref (s'.heap.objs.size + j)).map fun _ => Value.none).toArray } := by
      rw [← pB, ← eA]; exact Heap.get?_push_size _ rfl
    have kB : ∀ c o, hA.get? c = some o → hB.get? c = some o := fun c o q => by rw [← pB]; exact Heap.get?_push_of_some _ q
    simp only [eB]
    generalize pC : hB.push _ = hC
    have gC : hC.get? (s'.heap.objs.size + ls.length + 2) = some { cls := .type "zip", dict := none, data := .fields #[.none, .bool false, .bool false, .ref (s'.heap.objs.size + ls.length), .ref (s'.heap.objs.size + ls.length + 1)], slots := #[] } := by rw [← pC, ← eB]; exact Heap.get?_push_size _ rfl
    have kC : ∀ c o, hB.get? c = some o → hC.get? c = some o := fun c o q => by rw [← pC]; exact Heap.get?_push_of_some _ q
    refine h hC ⟨⟨.none, false, .inl rfl, gC⟩, kC _ _ (kB _ _ gA), ⟨_, by simp, kC _ _ gB⟩, fun j l hj => (hit j l hj).at fun o q => kC _ _ (kB _ _ (kA _ _ q))⟩ fun c o q => kC _ _ (kB _ _ (kA _ _ (hk c o q)))
theorem call_zipN {ls : List Addr} {Q : Value → Shared → Prop} (hn : ls.length = 4 ∨ ls.length = 6 ∨ ls.length = 8) (hl : ∀ l ∈ ls, ∃ xs : Array Value, s.heap.IsList l xs)
    (h : ∀ h', ZS s.heap.objs.size ls 0 h' → (∀ c o, s.heap.get? c = some o → h'.get? c = some o) → Q (.ref (s.heap.objs.size + ls.length + 2)) { s with heap := h' }) :
    wpAny (model prog w) A (call (.type "zip") (ls.map Value.ref)) Q E s := by
  have hct : checkTypeCall "zip" ⟨ls.map Value.ref, []⟩ = pure () := by
    rcases hn with q | q | q
    · exact typeCall_4 _ (by simpa using q)
    · exact typeCall_6 _ (by simpa using q)
    · exact typeCall_8 _ (by simpa using q)
  have hcn : checkBuiltinCall "zip.__new__" ⟨.type "zip" :: ls.map Value.ref, []⟩ = pure () := by
    rcases hn with q | q | q
    · exact newCall_4 _ (by simpa using q)
    · exact newCall_6 _ (by simpa using q)
    · exact newCall_8 _ (by simpa using q)
  have hin : ∀ obj, argsOk "object.__init__" ⟨obj :: ls.map Value.ref, []⟩ := by
    intro obj
    rcases hn with q | q | q
    · exact init_4 _ _ (by simpa using q)
    · exact init_6 _ _ (by simpa using q)
    · exact init_8 _ _ (by simpa using q)
  refine callType_newIn F.called_zip (by decide) hct hcn hin F.entry_zip_new ((zip_new_N ls (by omega)).inModel prog w) ⟨hl, fun h' hz hk => ?_⟩
  exact ⟨by obtain ⟨x0, f, _, q⟩ := hz.z; exact ⟨_, q, rfl⟩, h h' hz hk⟩
theorem pyNext_item {n0 : Nat} {ls : List Addr} {us : List Value} {i : Nat} {Q : Option Value → Shared → Prop} (hne : ls ≠ []) (hsz : ls.length ≤ 1000000) (st : ZS n0 ls i s.heap) (hl : us.length = ls.length) (low : ∀ l ∈ ls, (l : Nat) < n0)
    (hi : Has s.heap ls i us)
    (hQ : ∀ h', ZS n0 ls (i + 1) h' → h'.get? s.heap.objs.size = some { cls := .type "tuple", data := .seq us.toArray } → h'.objs.size = s.heap.objs.size + 1 →
      (∀ c : Nat, Out n0 ls.length c → ∀ o, s.heap.get? c = some o → h'.get? c = some o) → Q (some (.ref s.heap.objs.size)) { s with heap := h' }) :
    wpAny (model prog w) A (pyNext (.ref (n0 + ls.length + 2))) Q E s := by
  have hT : s.TypeIs (.ref (n0 + ls.length + 2)) "zip" := by obtain ⟨x0, f, _, q⟩ := st.z; exact ⟨_, q, rfl⟩
  unfold pyNext
  exact wpAny_bind (wpAny_attempt (wpAny_callSpecial?_slot (name := Str.ofString "__next__") hT F.slot_zip_next
    (wpAny_call_entry F.slot_zip_next hT F.entry_zip_next
      (next_item hne hsz st hl low hi fun h' a1 a2 a3 a4 => wpAny_pure (hQ h' a1 a2 a3 a4)) (F.args_zip_next_1 _))))
theorem pyNext_end {n0 : Nat} {ls : List Addr} {i : Nat} {Q : Option Value → Shared → Prop} (hh : A.handled = none) (hsz : ls.length ≤ 1000000) (st : ZS n0 ls i s.heap) (low : ∀ l ∈ ls, (l : Nat) < n0)
    (hls : ∀ (j : Nat) (l : Addr), ls[j]? = some l → ∃ xs : Array Value, s.heap.IsList l xs) (hend : ∃ (j : Nat) (l : Addr), ls[j]? = some l ∧ ∀ xs : Array Value, s.heap.IsList l xs → xs[i]? = none)
    (hQ : ∀ h', (∀ c : Nat, Out n0 ls.length c → ∀ o, s.heap.get? c = some o → h'.get? c = some o) → Q none { s with heap := h' }) :
    wpAny (model prog w) A (pyNext (.ref (n0 + ls.length + 2))) Q E s := by
  have hT : s.TypeIs (.ref (n0 + ls.length + 2)) "zip" := by obtain ⟨x0, f, _, q⟩ := st.z; exact ⟨_, q, rfl⟩
  unfold pyNext
  refine wpAny_bind (wpAny_attempt (wpAny_callSpecial?_slot (name := Str.ofString "__next__") hT F.slot_zip_next
    (wpAny_call_entry F.slot_zip_next hT F.entry_zip_next (next_end hh hsz st low hls hend fun h' e hk he => ?_) (F.args_zip_next_1 _))))
  obtain ⟨o, ho, hc⟩ := he
  refine wpAny_bind (wpAny_isInstance (T := "StopIteration") (b := true) ⟨o, ho, hc⟩ isSubtype_stop ?_)
  exact wpAny_pure (hQ _ hk)
/-- the step ahead of the store: the zip stays one -/
theorem go_zip {n0 : Nat} {ls : List Addr} {i : Nat} {tg : Expr} {T : Addr} {Q : Unit → Shared → Prop} (st : ZS n0 ls i s.heap) (hQ : ∀ h', ZS n0 ls i h' → Heap.SameBut (n0 + ls.length + 2) s.heap h' → Q () { s with heap := h' }) :
    wpAny (model prog w) A (letOwnedTupleGo tg (.ref (n0 + ls.length + 2)) (.ref T)) Q E s := by
  have same : Q () s := hQ s.heap st (Heap.SameBut.refl _ _)
  obtain ⟨⟨x0, f, hx0, hz⟩, hTI, hTO, hits⟩ := st
  unfold letOwnedTupleGo
  cases tg <;> first
    | exact wpAny_pure same
    | (refine wpAny_bind (wpAny_load hz ?_)
       show wpAny _ _ (if (["enumerate", "zip", "dict_itemiterator", "dict_reverseitemiterator", "odict_iterator", "itertools.zip_longest", "itertools.pairwise"].contains "zip" &&
         (#[x0, .bool f, .bool false, .ref (n0 + ls.length), .ref (n0 + ls.length + 1)] : Array Value)[0]? == some (rawInt T)) = true then _ else _) Q E s
       split
       · refine wpAny_bind (wpAny_rule ?_)
         show wpAny _ _ (setField (.ref (n0 + ls.length + 2)) 0 .none) Q E s
         refine wpAny_setField_rec hz (by simp) fun h' hz' hs' => hQ h' ⟨⟨.none, f, .inl rfl, hz'⟩, ?_, ?_, fun j l hj => ?_⟩ hs'
         · rw [hs'.2 _ (nn (by omega))]; exact hTI
         · obtain ⟨vs, hvl, hTO⟩ := hTO
           exact ⟨vs, hvl, by rw [hs'.2 _ (nn (by omega))]; exact hTO⟩
         · have hjl : j < ls.length := (List.getElem?_eq_some_iff.mp hj).1
           exact iter_of (hits j l hj) (hs'.2 _ (nn (by omega)))
       · exact wpAny_pure same)
end
/-! ### the turn -/
/-- the lists at ls as they stand at each turn, their items in a new tuple -/
def ItzN (K : PySem.W.Frag) (ls : List Addr) : It :=
  ⟨fun i H => ls ≠ [] ∧ ∃ us : List V, us.length = ls.length ∧ ∀ (j : Nat) (l : Addr) (u : V), ls[j]? = some l → us[j]? = some u → ∃ xs : List V, SqL K H l xs ∧ xs[i]? = some u,
    fun i H v H' => ∃ T us, v = .ref T ∧ H T = none ∧ H' = upd H T (.tup us) ∧ us.length = ls.length ∧ ∀ (j : Nat) (l : Addr), ls[j]? = some l → ∀ xs, SqL K H l xs → xs[i]? = us[j]?,
    fun i H => (∀ l ∈ ls, ∃ xs : List V, SqL K H l xs) ∧ ∃ l ∈ ls, ∃ xs : List V, SqL K H l xs ∧ xs.length ≤ i⟩
theorem has_vals {X : Cx} {pins : List (Addr × Obj)} {σ : L2.St} {H : Hp} {s : Shared} {i : Nat} (I : Inv X pins σ H s) : ∀ (ls : List Addr) (us : List V), us.length = ls.length → (∀ (j : Nat) (l : Addr) (u : V), ls[j]? = some l → us[j]? = some u → ∃ xs : List V, SqL X.K H l xs ∧ xs[i]? = some u) →
    ∃ ws : List Value, Vals us ws ∧ Has s.heap ls i ws
  | [], [], _, _ => ⟨[], .nil, fun j l u h => by simp at h⟩
  | [], u :: us, h, _ => by simp at h
  | l :: ls, [], h, _ => by simp at h
  | l :: ls, u :: us, hl, h => by
    obtain ⟨ws, hv, hh⟩ := has_vals I ls us (by simpa using hl) fun j l' u' h1 h2 => h (j + 1) l' u' (by simpa using h1) (by simpa using h2)
    obtain ⟨xs, q, hx⟩ := h 0 l u rfl rfl
    obtain ⟨its, rv, p, _⟩ := I.list q
    obtain ⟨w1, hw, rw1⟩ := rv.get hx
    refine ⟨w1 :: ws, .cons rw1 hv, fun j l' u' h1 h2 => ?_⟩
    cases j with
    | zero =>
      simp at h1 h2
      subst h1 h2
      exact ⟨_, p.isList, by simpa using hw⟩
    | succ j => exact hh j l' u' (by simpa using h1) (by simpa using h2)
def fpN (n0 n : Nat) : List Addr := (List.range (n + 3)).map (n0 + ·)
theorem mem_fpN {n0 n c : Nat} : c ∈ fpN n0 n ↔ ¬ Out n0 n c := by
  unfold fpN Out
  simp only [List.mem_map, List.mem_range]
  constructor
  · rintro ⟨j, hj, rfl⟩; omega
  · intro h; exact ⟨c - n0, by omega, by omega⟩
theorem turn_zipN {P : Program} {w : World} {K : PySem.W.Frag} {tg : Expr} {n0 : Nat} {ls : List Addr} (hsz : ls.length ≤ 1000000) (low : ∀ l ∈ ls, (l : Nat) < n0) :
    Turn P w K tg (ItzN K ls) (fpN n0 ls.length) (n0 + ls.length + 2 : Nat) (fun i h => ZS n0 ls i h) where
  mem := mem_fpN.mpr (by unfold Out; omega)
  obj := fun i h st c0 hc => by
    obtain ⟨c, rfl⟩ : ∃ c : Nat, c = c0 := ⟨c0, rfl⟩
    have hc := mem_fpN.mp hc
    obtain ⟨⟨x0, f, hx0, hz⟩, hTI, ⟨vs, hvl, hTO⟩, hits⟩ := st
    have h4 : (c : Nat) = n0 + ls.length + 2 ∨ (c : Nat) = n0 + ls.length ∨ (c : Nat) = n0 + ls.length + 1 ∨ ∃ j, j < ls.length ∧ (c : Nat) = n0 + j := by
      unfold Out at hc
      by_cases h1 : (c : Nat) < n0 + ls.length
      · exact .inr (.inr (.inr ⟨(c : Nat) - n0, by omega, by omega⟩))
      · omega
    rcases h4 with rfl | rfl | rfl | ⟨j, hj, rfl⟩
    · exact ⟨_, hz, fun v q => nomatch q⟩
    · exact ⟨_, hTI, fun v q => nomatch q⟩
    · exact ⟨_, hTO, fun v q => nomatch q⟩
    · obtain ⟨o1, e1, _, d1⟩ := hits j ls[j] (List.getElem?_eq_getElem hj)
      exact ⟨o1, e1, fun v q => by rw [d1] at q; cases q⟩
  keep := fun i h h' st k => by
    obtain ⟨⟨x0, f, hx0, hz⟩, hTI, ⟨vs, hvl, hTO⟩, hits⟩ := st
    refine ⟨⟨x0, f, hx0, k _ (mem_fpN.mpr (by unfold Out; omega)) _ hz⟩, k _ (mem_fpN.mpr (by unfold Out; omega)) _ hTI, ⟨vs, hvl, k _ (mem_fpN.mpr (by unfold Out; omega)) _ hTO⟩, fun j l hj => ?_⟩
    have hjl : j < ls.length := (List.getElem?_eq_some_iff.mp hj).1
    exact (hits j l hj).at fun o q => k _ (mem_fpN.mpr (by unfold Out; omega)) o q
  item := by
    intro X hP hw hK hc i pins s σ H E I hf st hg
    subst hP hw hK
    obtain ⟨hne, us, hul, hus⟩ := hg
    obtain ⟨ws, rws, has⟩ := has_vals I ls us hul hus
    have hwl : ws.length = ls.length := by rw [← rws.length]; exact hul
    have hb : s.heap.objs.size > n0 + ls.length + 2 := by obtain ⟨x0, f, _, q⟩ := st.z; exact Heap.lt_size q
    refine pyNext_item hne hsz st hwl low has fun h' st' hT hsz' hk => ?_
    refine ⟨_, rfl, go_zip (s := { s with heap := h' }) st' fun h'' st'' sb => ?_⟩
    have hT2 : h''.get? s.heap.objs.size = some { cls := .type "tuple", data := .seq ws.toArray } := (sb.2 _ (nn (by omega))).trans hT
    have new : ObjOk X.prog X.w (upd H s.heap.objs.size (.tup us)) h'' s.heap.objs.size (.tup us) :=
      ⟨by rw [hul]; unfold sizeLine; omega, ws, rws, ⟨_, hT2, rfl, _, rfl⟩⟩
    have I1 : Inv X pins σ (upd H s.heap.objs.size (.tup us)) { s with heap := h'' } :=
      I.turnedNew (t' := s.toks) (ch := fpN n0 ls.length) (fun c0 o hb' q => by
        obtain ⟨c, rfl⟩ : ∃ c : Nat, c = c0 := ⟨c0, rfl⟩
        have hc' : Out n0 ls.length c := Classical.byContradiction fun z => hb' (mem_fpN.mpr z)
        have hc2 := hc'
        unfold Out at hc2
        exact (sb.2 c (nn (by omega))).trans (hk c hc' o q)) hf (Nat.le_refl _) new
    refine ⟨.ref s.heap.objs.size, _, I1, rfl, ⟨_, us, rfl, I.hok.fresh (Nat.le_refl _), rfl, hul, fun j l hj xs hq => ?_⟩, st'', fun c0 hcm => ?_⟩
    · have hjl : j < ls.length := (List.getElem?_eq_some_iff.mp hj).1
      obtain ⟨u, hu⟩ : ∃ u, us[j]? = some u := ⟨_, List.getElem?_eq_getElem (by omega)⟩
      obtain ⟨ys, q', hy⟩ := hus j l u hj hu
      rw [I.list_inj hq q', hy, hu]
    · obtain ⟨c, rfl⟩ : ∃ c : Nat, c = c0 := ⟨c0, rfl⟩
      have hc := mem_fpN.mp hcm
      have hlt : (c : Nat) < s.heap.objs.size := by unfold Out at hc; omega
      rw [upd_ne (Nat.ne_of_lt hlt)]
      exact (hf c hcm).1
  done := by
    intro X hP hw hK hc i pins s σ H E I hf st hg
    subst hP hw hK
    obtain ⟨hall, l0, hl0, xs0, q0, hle⟩ := hg
    refine pyNext_end (I.ok.hd hc) hsz st low (fun j l hj => ?_) ?_ fun h' hk => ⟨rfl, I.turnedL (t' := s.toks) (ch := fpN n0 ls.length) (fun c o hb' q => hk c (Classical.byContradiction fun z => hb' (mem_fpN.mpr z)) o q) hf⟩
    · obtain ⟨xs, q⟩ := hall l (List.mem_of_getElem? hj)
      obtain ⟨its, rv, p, _⟩ := I.list q
      exact ⟨_, p.isList⟩
    · obtain ⟨j, hj⟩ := List.getElem?_of_mem hl0
      refine ⟨j, l0, hj, fun xs hxs => ?_⟩
      obtain ⟨its, rv, p, _⟩ := I.list q0
      have l1 := rv.length
      have e : xs = its.toArray := by
        obtain ⟨o1, h1, c1, n1, d1⟩ := hxs
        obtain ⟨o2, h2, c2, n2, d2⟩ := p.isList
        rw [h1] at h2
        cases h2
        rw [d1] at d2
        cases d2
        rfl
      subst e
      simp
      omega
  self := fun A i s Q E st h => by
    obtain ⟨x0, f, _, q⟩ := st.z
    have hT : s.TypeIs (.ref (n0 + ls.length + 2 : Nat)) "zip" := ⟨_, q, rfl⟩
    refine wpAny_pyIter_slot hT F.slot_zip_iter (wpAny_call_entry F.slot_zip_iter hT F.entry_zip_iter ?_ (F.args_zip_iter_1 _))
    show wpAny _ _ (ret (.ref _)) _ _ s
    exact wpAny_pure ⟨_, rfl, "zip", _, hT, F.slot_zip_next.lookup, h⟩
theorem callWith_typeS {M : Model} {A : Around} {E : Value → Shared → Prop} {s : Shared} {pos p : Pos} {T : String} {env : Env} {e : Expr} {Q : Value → Shared → Prop}
    (h : wpAny M A (eval e env) (fun v s₁ => PySem.W.StarOf M A E v (fun vs s₂ => wpAny M A (call (.type T) vs) Q E s₂) s₁) E s) (he : starEach [.Starred e p] env = [(true, eval e env)] := by rfl) :
    wpAny M A (callWith pos (.type T) [] (backTo pos (starEach [.Starred e p] env)) []) Q E s := by
  rw [he]
  have h2 := PySem.W.ks_lone (f := .type T) (pos := pos) (Q := fun a s₂ => wpAny M A (call (.type T) a.pos a.kw) Q E s₂) h
  unfold callWith
  refine wpAny_bind (wpAny_holding (wpAny_mono h2 (fun a s₁ h₁ => wpAny_bind (wpAny_standAt ?_)) fun _ _ x => x))
  refine wpAny_bind (wpAny_pure ?_)
  refine wpAny_bind ?_
  refine wpAny_mono (PySem.wpAny_operating h₁) (fun r s₂ hr => wpAny_bind (wpAny_holding (wpAny_point (wpAny_pure hr)))) fun _ _ x => x
def iZipN (K : PySem.W.Frag) (te : TE) : TI := fun σ H R => te σ H fun v H1 => ∃ (a : Addr) (ls : List Addr), v = V.ref a ∧ SqL K H1 a (ls.map V.ref) ∧ (ls.length = 4 ∨ ls.length = 6 ∨ ls.length = 8) ∧ (∀ l ∈ ls, ∃ xs : List V, SqL K H1 l xs) ∧ R (ItzN K ls) H1
theorem vals_refs : ∀ {ls : List Addr} {us : List Value}, Vals (ls.map V.ref) us → us = ls.map Value.ref
  | [], _, h => by cases h; rfl
  | l :: ls, _, h => by
    cases h with
    | cons a r => rw [vals_refs r]; cases a; rfl
theorem pi_zipN {X : Cx} {K : PySem.W.Frag} {e tg : Expr} {te : TE} {p sp_ pos : Pos} (hg : Gl X "zip") (hm : X.mg "zip" = none) (he : PE X e te) (hK : X.K = K := by rfl) (hst : starEach [.Starred e sp_] X.env = [(true, eval e X.env)] := by rfl) :
    PI X tg (.Call (.Name "zip" p) [.Starred e sp_] [] pos) (iZipN K te) := by
  subst hK
  refine ⟨fun pins s σ H R I h => ?_⟩
  refine Call_ (ld_blt I hg hm PyProof.Rows.boot_zip (callWith_typeS (thn (he.run pins s σ H _ I h) fun v s1 ⟨y, H1, I1, ry, a, ls, ey, hx, hn, hls, q⟩ => ?_) hst))
  subst ey
  obtain rfl : v = Value.ref a := ry
  refine StX.star_any I1 (.inr hx) fun us s2 I2 rv => ?_
  obtain rfl := vals_refs rv
  have hlists : ∀ l ∈ ls, ∃ xs : Array Value, s2.heap.IsList l xs := fun l hl => by
    obtain ⟨xs, q⟩ := hls l hl
    obtain ⟨its, rv, pl, _⟩ := I2.list q
    exact ⟨_, pl.isList⟩
  have hlow : ∀ l ∈ ls, (l : Nat) < s2.heap.objs.size := fun l hl => by
    obtain ⟨xs, q⟩ := hls l hl
    obtain ⟨its, rv, pl, _⟩ := I2.list q
    exact pl.lt
  refine call_zipN hn hlists fun h' hz hk => ?_
  have I3 : Inv X pins σ H1 { s2 with heap := h' } := I2.kept (t' := s2.toks) hk
  have T := turn_zipN (P := X.prog) (w := X.w) (K := X.K) (tg := tg) (n0 := s2.heap.objs.size) (ls := ls) (by omega) hlow
  refine T.self X.A 0 { s2 with heap := h' } _ _ hz ?_
  refine ⟨_, _, _, _, H1, rfl, I3, T, hz, fun b hb => ?_, q⟩
  have hc := mem_fpN.mp hb
  have hle : s2.heap.objs.size ≤ b := by
    obtain ⟨c, rfl⟩ : ∃ c : Nat, c = b := ⟨b, rfl⟩
    unfold Out at hc
    omega
  exact I2.fpOk hle (I2.hok.fresh hle)
end Vz
namespace Vx
open PySem PySem.Spec PyProof.Rows L2
/-- the length of the shortest row -/
def minLen : List (List Int) → Nat
  | [] => 0
  | [x] => x.length
  | x :: r => min x.length (minLen r)
def colOf (xss : List (List Int)) (i : Nat) : List Int := xss.map fun r => itD r (i : Int)
/-- zip(*rows) -/
def zipRows (xss : List (List Int)) : List (List Int) := (List.range (minLen xss)).map (colOf xss)
theorem minLen_le : ∀ {xss : List (List Int)} {xs : List Int}, xs ∈ xss → minLen xss ≤ xs.length
  | [x], xs, h => by
    simp at h
    subst h
    exact Nat.le_refl _
  | x :: y :: r, xs, h => by
    rcases List.mem_cons.mp h with rfl | h
    · exact Nat.min_le_left _ _
    · exact Nat.le_trans (Nat.min_le_right _ _) (minLen_le h)
theorem minLen_at : ∀ {xss : List (List Int)}, xss ≠ [] → ∃ xs ∈ xss, xs.length = minLen xss
  | [x], _ => ⟨x, List.mem_cons_self, rfl⟩
  | x :: y :: r, _ => by
    obtain ⟨z, hz, e⟩ := minLen_at (xss := y :: r) (by simp)
    by_cases h : x.length ≤ minLen (y :: r)
    · exact ⟨x, List.mem_cons_self, by show _ = min _ _; omega⟩
    · exact ⟨z, List.mem_cons_of_mem _ hz, by show _ = min _ _; omega⟩
theorem zipRows_len (xss : List (List Int)) : (zipRows xss).length = minLen xss := by simp [zipRows]
theorem zipRows_get {xss : List (List Int)} {i : Nat} (h : i < minLen xss) : (zipRows xss)[i]? = some (colOf xss i) := by
  simp [zipRows, List.getElem?_range h]
/-- the rows stand at ls -/
def RowsAt (K : PySem.W.Frag) (H : Hp) (ls : List Addr) (xss : List (List Int)) : Prop :=
  ls.length = xss.length ∧ ∀ (j : Nat) (l : Addr) (xs : List Int), ls[j]? = some l → xss[j]? = some xs → SqL K H l (xs.map V.int)
theorem RowsAt.all {K : PySem.W.Frag} {H : Hp} {ls : List Addr} {xss : List (List Int)} (r : RowsAt K H ls xss) : ∀ l ∈ ls, ∃ xs : List V, SqL K H l xs := fun l hl => by
  obtain ⟨j, hj⟩ := List.getElem?_of_mem hl
  have hjl : j < ls.length := (List.getElem?_eq_some_iff.mp hj).1
  have hjx : j < xss.length := by rw [← r.1]; exact hjl
  exact ⟨_, r.2 j l xss[j] hj (List.getElem?_eq_getElem hjx)⟩
theorem walk_zipN {K : PySem.W.Frag} {ls : List Addr} {xss : List (List Int)} (hne : xss ≠ []) :
    Walk (Vz.ItzN K ls) (minLen xss) (fun H => RowsAt K H ls xss) (fun i H v H' => ∃ T, v = .ref T ∧ H T = none ∧ H' = upd H T (.tup ((colOf xss i).map V.int))) := by
  refine ⟨fun i H hi q => ?_, fun H q => ?_, fun i H x H' hi q y => ?_⟩
  · have hl : ls ≠ [] := fun z => hne (by have := q.1; rw [z] at this; exact List.length_eq_zero_iff.mp this.symm)
    refine ⟨hl, (colOf xss i).map V.int, by simp [colOf, q.1], fun j l u h1 h2 => ?_⟩
    have hj : j < xss.length := by rw [← q.1]; exact (List.getElem?_eq_some_iff.mp h1).1
    have hx : xss[j]? = some xss[j] := List.getElem?_eq_getElem hj
    refine ⟨_, q.2 j l _ h1 hx, ?_⟩
    have hlt : i < xss[j].length := Nat.lt_of_lt_of_le hi (minLen_le (List.getElem_mem hj))
    rw [List.getElem?_map] at h2
    unfold colOf at h2
    rw [List.getElem?_map, hx] at h2
    rw [List.getElem?_map]
    simp at h2
    rw [List.getElem?_eq_getElem hlt, ← h2]
    have : itD xss[j] (i : Int) = xss[j][i] := by
      unfold itD
      rw [atI_nat (List.getElem?_eq_getElem hlt)]
      rfl
    simp [this]
  · refine ⟨q.all, ?_⟩
    obtain ⟨xs, hm, e⟩ := minLen_at hne
    obtain ⟨j, hj⟩ := List.getElem?_of_mem hm
    have hjl : j < ls.length := by rw [q.1]; exact (List.getElem?_eq_some_iff.mp hj).1
    exact ⟨ls[j], List.getElem_mem hjl, _, q.2 j _ xs (List.getElem?_eq_getElem hjl) hj, by simp [e]⟩
  · obtain ⟨T, us, rfl, hT, rfl, hul, hus⟩ := y
    refine ⟨T, rfl, hT, ?_⟩
    congr 2
    apply List.ext_getElem?
    intro j
    by_cases hj : j < xss.length
    · have hjl : j < ls.length := by rw [q.1]; exact hj
      have := hus j ls[j] (List.getElem?_eq_getElem hjl) _ (q.2 j _ xss[j] (List.getElem?_eq_getElem hjl) (List.getElem?_eq_getElem hj))
      rw [← this]
      have hlt : i < xss[j].length := Nat.lt_of_lt_of_le hi (minLen_le (List.getElem_mem hj))
      have hh : itD xss[j] (i : Int) = xss[j][i] := by
        unfold itD
        rw [atI_nat (List.getElem?_eq_getElem hlt)]
        rfl
      unfold colOf
      rw [List.getElem?_map, List.getElem?_eq_getElem hlt, List.getElem?_map, List.getElem?_map, List.getElem?_eq_getElem hj]
      simp [hh]
    · rw [List.getElem?_eq_none (by rw [hul, q.1]; omega), List.getElem?_eq_none (by simp [colOf]; omega)]
/-- rows of data that stays -/
theorem rows_rp {K : PySem.W.Frag} {G H : Hp} (e : Same G H) : ∀ {vs : List V} {xss : List (List Int)}, RpAll G vs (xss.map (encL PyData.int)) → ∃ ls, vs = ls.map V.ref ∧ RowsAt K H ls xss
  | _, [], h => by cases h; exact ⟨[], rfl, rfl, fun j l xs h1 _ => by simp at h1⟩
  | _, xs :: r, h => by
    cases h with
    | cons r1 rr =>
      obtain ⟨ls, rfl, h1, h2⟩ := rows_rp (K := K) e rr
      obtain ⟨a, rfl, ha⟩ := rp_ints r1
      refine ⟨a :: ls, rfl, by simp [h1], fun j l ys q1 q2 => ?_⟩
      cases j with
      | zero =>
        simp at q1 q2
        subst q1 q2
        exact SqL.of (e _ _ ha)
      | succ j => exact h2 j l ys (by simpa using q1) (by simpa using q2)
/-- rows of a tree of one's own -/
theorem rows_ow {K : PySem.W.Frag} {G H : Hp} {L : List Addr} {vs : List V} {xss : List (List Int)} (e : Same G H) (w : OwAll G H L vs (xss.map (oL oI))) : ∃ ls, vs = ls.map V.ref ∧ RowsAt K H ls xss :=
  rows_rp (Same.refl H) (w.rpA (encO_L encO_I) e)
/-- the same rows later -/
theorem RowsAt.again {K : PySem.W.Frag} {H : Hp} {ls : List Addr} {xss : List (List Int)} {vs : List V} (h1 : vs = ls.map V.ref) (h2 : ∃ ls', vs = ls'.map V.ref ∧ RowsAt K H ls' xss) : RowsAt K H ls xss := by
  obtain ⟨ls', e, r⟩ := h2
  have : ls' = ls := by
    have q := h1.symm.trans e
    have inj : ∀ {a b : List Addr}, a.map V.ref = b.map V.ref → a = b := by
      intro a
      induction a with
      | nil => intro b h; cases b with | nil => rfl | cons _ _ => cases h
      | cons x r ih => intro b h; cases b with | nil => cases h | cons y s => simp at h; rw [h.1, ih (by simpa using h.2)]
    exact (inj q).symm
  rw [this] at r
  exact r
/-- a comprehension over zip(*rows) -/
theorem lc_zipN {K : PySem.W.Frag} {ls : List Addr} {xss : List (List Int)} {g : TG} {tt : TT} {te : TE} {vs : List Nat} {σ : L2.St} {H1 : Hp} {D : Addr} {Qd : Hp → Prop} (hne : xss ≠ []) (Pv : Nat → Hp → Prop) (h0 : Pv 0 (upd H1 D (.lst []))) (hq : ∀ i H, i ≤ minLen xss → Pv i H → RowsAt K H ls xss)
    (hs : ∀ (i : Nat) (T : Addr) (H : Hp), i < minLen xss → H T = none → Pv i H → g (.ref T) (wipe σ vs) (upd H T (.tup ((colOf xss i).map V.int))) fun σ2 H2 => wipe σ2 vs = wipe σ vs ∧ tt σ2 H2 fun b H3 =>
      if b = true then te σ2 H3 fun y H4 => ∃ acc, H4 D = some (.lst acc) ∧ acc.length < sizeLine ∧ Pv (i + 1) (upd H4 D (.lst (acc ++ [y]))) else Pv (i + 1) H3) (hd : ∀ H, Pv (minLen xss) H → Qd H) :
    ∃ W : Nat → Nat → Hp → Prop, (∃ m, W 0 m (upd H1 D (.lst []))) ∧ ∀ i m H, W i m H →
      ((Vz.ItzN K ls).stop i H ∧ Qd H) ∨ ((Vz.ItzN K ls).go i H ∧ ∃ Nx : Hp → Prop, (∀ H', Nx H' → ∃ m', m' < m ∧ W (i + 1) m' H') ∧ ∀ x H', (Vz.ItzN K ls).yld i H x H' → g x (wipe σ vs) H' fun σ2 H2 => wipe σ2 vs = wipe σ vs ∧ tt σ2 H2 fun b H3 =>
        if b = true then te σ2 H3 fun y H4 => ∃ acc, H4 D = some (.lst acc) ∧ acc.length < sizeLine ∧ Nx (upd H4 D (.lst (acc ++ [y]))) else Nx H3) := by
  refine lc_it (walk_zipN hne) Pv h0 hq (fun i x H H' hi p y => ?_) hd
  obtain ⟨T, rfl, hT, rfl⟩ := y
  exact hs i T H hi hT p
end Vx
/-! # lists stored into trees -/
namespace Vx
open PySem PySem.Spec PyProof.Rows L2
section
variable {G H I : Hp} {α : Type} {f : α → Dt} {L : List Addr} {vs : List V} {xs : List α}
theorem OwAll.set {L1 : List Addr} {v : V} {d : Dt} (h : Ow G H L1 v d) : ∀ {L : List Addr} {vs : List V} {ds : List Dt} (i : Nat), i < ds.length → OwAll G H L vs ds → (∀ b ∈ L1, b ∉ L) → ∃ L', (∀ b ∈ L', b ∈ L ++ L1) ∧ OwAll G H L' (vs.set i v) (ds.set i d)
  | _, _, _, _, hi, .nil, _ => absurd hi (Nat.not_lt_zero _)
  | _, _, _, 0, _, .cons (L1 := La) (L2 := Lb) a r n, nf => by
    refine ⟨L1 ++ Lb, fun b hb => ?_, .cons h r fun b hb q => nf b hb (List.mem_append_right _ q)⟩
    rcases List.mem_append.mp hb with q | q
    · exact List.mem_append_right _ q
    · exact List.mem_append_left _ (List.mem_append_right _ q)
  | _, _, _, i + 1, hi, .cons (L1 := La) (L2 := Lb) a r n, nf => by
    obtain ⟨L', s, w⟩ := OwAll.set h i (Nat.lt_of_succ_lt_succ hi) r fun b hb q => nf b hb (List.mem_append_right _ q)
    refine ⟨La ++ L', fun b hb => ?_, .cons a w fun b hb q => ?_⟩
    · rcases List.mem_append.mp hb with q | q
      · exact List.mem_append_left _ (List.mem_append_left _ q)
      · rcases List.mem_append.mp (s b q) with z | z
        · exact List.mem_append_left _ (List.mem_append_right _ z)
        · exact List.mem_append_right _ z
    · rcases List.mem_append.mp (s b q) with z | z
      · exact n b hb z
      · exact nf b z (List.mem_append_left _ hb)
theorem ixN_len {k : Int} (e : vs.length = xs.length) (h : -(xs.length : Int) ≤ k ∧ k < xs.length) : ixN vs.length k = some ((ixN vs.length k).getD 0) := by
  rw [e]
  obtain ⟨j, hj, _⟩ := ixN_some h
  rw [hj]
  rfl
theorem OwAll.setM {k : Int} {L1 : List Addr} {v : V} {y : α} (w : OwAll G H L vs (xs.map f)) (h : -(xs.length : Int) ≤ k ∧ k < xs.length) (ow : Ow G H L1 v (f y)) (n : ∀ b ∈ L1, b ∉ L) :
    ∃ L', (∀ b ∈ L', b ∈ L ++ L1) ∧ OwAll G H L' (vs.set ((ixN vs.length k).getD 0) v) ((setL xs k y).map f) := by
  obtain ⟨j, e, hj⟩ := ixN_some h
  obtain ⟨L', s, z⟩ := OwAll.set ow j (by simpa using hj) w n
  refine ⟨L', s, ?_⟩
  unfold setL
  rw [w.lenM, e, List.map_set]
  exact z
end
theorem ne_of_len {α : Type} {xs : List α} (h : xs.length = 4 ∨ xs.length = 6 ∨ xs.length = 8) : xs ≠ [] := by
  rintro rfl
  simp at h
end Vx
namespace Vx
open PySem PySem.Spec PyProof.Rows L2
/-! ### written dicts of ints -/
inductive EI : List (Int × Int) → List DictEntry → Prop
  | nil : EI [] []
  | cons {k v : Int} {t u : Tok} {r : List (Int × Int)} {es : List DictEntry} (h : EI r es) : EI ((k, v) :: r) (⟨hashInt k, .int k t, .int v u⟩ :: es)
def lookI : List (Int × Int) → Int → Option Int
  | [], _ => none
  | (k, v) :: r, i => if i = k then some v else lookI r i
def KDI (K : PySem.W.Frag) (a : Addr) (kvs : List (Int × Int)) : Prop :=
  ∃ es n, K.lookup a = some ⟨.type "dict", none, .dict es n, #[]⟩ ∧ (a == sysModules) = false ∧ EI kvs es.toList
theorem lookI_mem {kvs : List (Int × Int)} {i : Int} : (lookI kvs i).isSome = decide (i ∈ kvs.map (·.1)) := by
  induction kvs with
  | nil => rfl
  | cons p r ih =>
    obtain ⟨k, v⟩ := p
    unfold lookI
    by_cases q : i = k
    · rw [if_pos q]; simp [q]
    · rw [if_neg q, ih]; simp [q]
theorem EI.find {i : Int} : ∀ {kvs : List (Int × Int)} {es : List DictEntry}, EI kvs es → match lookI kvs i with
    | some v => ∃ u, (es.find? fun e => keyIs (.inl i) e.key).map (·.val) = some (.int v u)
    | none => (es.find? fun e => keyIs (.inl i) e.key).map (·.val) = none
  | _, _, .nil => rfl
  | _, _, .cons (k := k) (v := v) (t := t) (u := u) (r := r) (es := es) h => by
    have ih := EI.find (i := i) h
    unfold lookI
    by_cases q : i = k
    · subst q
      rw [if_pos rfl]
      refine ⟨u, ?_⟩
      rw [List.find?_cons_of_pos (by exact keyIs_int i t)]
      rfl
    · rw [if_neg q]
      have e : ¬ (keyIs (.inl i) (Value.int k t) = true) := by
        intro z
        obtain ⟨t', e'⟩ := Value.isInt_shape (k := i) (v := Value.int k t) z
        injection e' with e1 _
        exact q e1.symm
      rw [List.find?_cons_of_neg (by exact e)]
      exact ih
theorem EI.keys {P : Program} {w : World} : ∀ {kvs : List (Int × Int)} {es : List DictEntry}, EI kvs es → ∀ e ∈ es, ∃ k, (mixKind P w).is k e.key = true ∧ e.hash = (mixKind P w).hash k
  | _, _, .nil, e, he => nomatch he
  | _, _, .cons (k := k) (t := t) h, e, he => by
    rcases List.mem_cons.mp he with rfl | he
    · exact ⟨.inl k, keyIs_int k t, rfl⟩
    · exact EI.keys h e he
section
variable {X : Cx} {K : PySem.W.Frag}
theorem KDI.map {d : Addr} {kvs : List (Int × Int)} {pins : List (Addr × Obj)} {σ : L2.St} {H : Hp} {s : Shared} (D : KDI X.K d kvs) (I : Inv X pins σ H s) : (d == sysModules) = false ∧ ∃ f, s.heap.MapOf (mixKind X.prog X.w) d f ∧ ∀ i, match lookI kvs i with
    | some v => ∃ u, f (.inl i) = some (.int v u)
    | none => f (.inl i) = none := by
  obtain ⟨es, n, hl, hd, he⟩ := D
  refine ⟨hd, fun k => findBy keyIs es k, ⟨_, es, n, I.kIn _ _ hl, ⟨rfl, rfl, rfl⟩, rfl, fun e q => EI.keys he e (Array.mem_toList_iff.mpr q), fun _ => rfl⟩, fun i => ?_⟩
  have := EI.find (i := i) he
  have e : findBy keyIs es (.inl i) = (es.toList.find? fun e => keyIs (.inl i) e.key).map (·.val) := by
    obtain ⟨l⟩ := es
    unfold findBy
    rw [List.find?_toArray]
  show match lookI kvs i with
    | some v => ∃ u, findBy keyIs es (.inl i) = some (.int v u)
    | none => findBy keyIs es (.inl i) = none
  rw [e]
  exact this
def rInDI (K : PySem.W.Frag) : R2 := fun x y H Q => ∃ (i : Int) (d : Addr) (kvs : List (Int × Int)) (ks : List Int), x = .int i ∧ y = .ref d ∧ KDI K d kvs ∧ ks = kvs.map (·.1) ∧ Q (.bl (decide (i ∈ ks))) H
def rNotInDI (K : PySem.W.Frag) : R2 := fun x y H Q => ∃ (i : Int) (d : Addr) (kvs : List (Int × Int)) (ks : List Int), x = .int i ∧ y = .ref d ∧ KDI K d kvs ∧ ks = kvs.map (·.1) ∧ Q (.bl (!decide (i ∈ ks))) H
def rIxDI (K : PySem.W.Frag) : R2 := fun x y H Q => ∃ (d : Addr) (i v : Int) (kvs : List (Int × Int)), x = .ref d ∧ y = .int i ∧ KDI K d kvs ∧ lookI kvs i = some v ∧ Q (.int v) H
theorem op_inDI (hK : X.K = K := by rfl) : OpR X (compareOp .In) (rInDI K) := by
  subst hK
  intro pins s σ H x y v u Q I rx ry h
  obtain ⟨i, d, kvs, ks, rfl, rfl, D, rfl, q⟩ := h
  rw [← lookI_mem] at q
  obtain ⟨t, rfl⟩ := rx
  cases ry
  obtain ⟨hd, f, hm, hf⟩ := D.map I
  refine wpAny_in_of (knd := mixKind X.prog X.w) (kV_is (k := .inl i) ⟨t, rfl⟩) hd hm ?_
  have e : (f (.inl i)).isSome = (lookI kvs i).isSome := by
    have := hf i
    split at this
    · next v hv => obtain ⟨u, hu⟩ := this; rw [hu, hv]; rfl
    · next hv => rw [this, hv]; rfl
  rw [e]
  exact ⟨.bl (lookI kvs i).isSome, H, I.tok _, rfl, q⟩
theorem op_notInDI (hK : X.K = K := by rfl) : OpR X (compareOp .NotIn) (rNotInDI K) := by
  subst hK
  intro pins s σ H x y v u Q I rx ry h
  obtain ⟨i, d, kvs, ks, rfl, rfl, D, rfl, q⟩ := h
  rw [← lookI_mem] at q
  obtain ⟨t, rfl⟩ := rx
  cases ry
  obtain ⟨hd, f, hm, hf⟩ := D.map I
  refine wpAny_notIn_of (knd := mixKind X.prog X.w) (kV_is (k := .inl i) ⟨t, rfl⟩) hd hm ?_
  have e : (f (.inl i)).isSome = (lookI kvs i).isSome := by
    have := hf i
    split at this
    · next v hv => obtain ⟨u, hu⟩ := this; rw [hu, hv]; rfl
    · next hv => rw [this, hv]; rfl
  rw [e]
  exact ⟨.bl (!(lookI kvs i).isSome), H, I.tok _, rfl, q⟩
theorem ix_DI (hK : X.K = K := by rfl) : IxR X (rIxDI K) := by
  subst hK
  intro value slice pins s σ H x y v u Q I rx ry h hs
  obtain ⟨p, i, r, kvs, rfl, rfl, D, e, q⟩ := h
  obtain rfl : v = Value.ref p := rx
  obtain ⟨t, rfl⟩ := ry
  obtain ⟨hd, f, hm, hf⟩ := D.map I
  have := hf i
  rw [e] at this
  obtain ⟨u, hu⟩ := this
  exact tail_any hm.typeIs slot_dict_getitem.lookup (wpAny_getItem_of (knd := mixKind X.prog X.w) (kV_is (k := .inl i) ⟨t, rfl⟩) hm hu ⟨.int r, H, I.tok _, ⟨_, rfl⟩, q⟩) hs
end
/-- the value at a key that is there -/
def dictI (kvs : List (Int × Int)) (i : Int) : Int := (lookI kvs i).getD 0
theorem lookI_at {kvs : List (Int × Int)} {i : Int} (h : i ∈ kvs.map (·.1)) : lookI kvs i = some (dictI kvs i) := by
  have := lookI_mem (kvs := kvs) (i := i)
  rw [decide_eq_true h] at this
  unfold dictI
  cases e : lookI kvs i with
  | none => rw [e] at this; cases this
  | some v => rfl
/-! ### walks over two lists, over numbered items, backwards -/
theorem pi_enumK {X : Cx} {K : PySem.W.Frag} {e : Expr} {ta : TA} {p pos tpos : Pos} {elts : List Expr} {kk : Nat} (hg : Gl X "enumerate") (hm : X.mg "enumerate" = none) (ha : PA X [e] ta) (hK : X.K = K := by rfl) (hs : starEach [e] X.env = [(false, eval e X.env)] := by rfl) :
    PI X (.Tuple elts kk tpos) (.Call (.Name "enumerate" p) [e] [] pos) (iEnum K ta) := hK ▸ pi_enum hg hm ha hs
section
variable {K : PySem.W.Frag} {a b : Addr} {xs ys : List V} {g : TG} {tb : TS} {tt : TT} {te : TE} {D : Ends} {σ : L2.St} {H H1 : Hp} {vs : List Nat} {DD : Addr} {Qd : Hp → Prop}
theorem for_enum (Pv : Nat → L2.St → Hp → Prop) (h0 : Pv 0 σ H) (hq : ∀ i σ H, Pv i σ H → SqL K H a xs)
    (hs : ∀ (i : Nat) (y : V) (T : Addr) (σ : L2.St) (H : Hp), xs[i]? = some y → H T = none → Pv i σ H → g (.ref T) σ (upd H T (.tup [.int (i : Nat), y])) fun σ2 H2 => tb { D with nx := Pv (i + 1), ct := Pv (i + 1), bk := D.nx } σ2 H2) (hd : ∀ σ H, Pv xs.length σ H → D.nx σ H) :
    ∃ W : Nat → Nat → L2.St → Hp → Prop, (∃ m, W 0 m σ H) ∧ ∀ i m σ H, W i m σ H →
      ((Ite K a).stop i H ∧ D.nx σ H) ∨ ((Ite K a).go i H ∧ ∃ N : L2.St → Hp → Prop, (∀ σ' H', N σ' H' → ∃ m', m' < m ∧ W (i + 1) m' σ' H') ∧ ∀ v H', (Ite K a).yld i H v H' → g v σ H' fun σ2 H2 => tb { D with nx := N, ct := N, bk := D.nx } σ2 H2) := by
  refine for_it walk_enum Pv h0 (fun i σ H _ p => hq i σ H p) (fun i x σ H H' hi p y => ?_) hd
  obtain ⟨T, x1, y1, rfl, hT, rfl, h1, h2⟩ := y
  cases h1
  exact hs i y1 T σ H h2 hT p
theorem lc_enum (Pv : Nat → Hp → Prop) (h0 : Pv 0 (upd H1 DD (.lst []))) (hq : ∀ i H, i ≤ xs.length → Pv i H → SqL K H a xs)
    (hs : ∀ (i : Nat) (y : V) (T : Addr) (H : Hp), xs[i]? = some y → H T = none → Pv i H → g (.ref T) (wipe σ vs) (upd H T (.tup [.int (i : Nat), y])) fun σ2 H2 => wipe σ2 vs = wipe σ vs ∧ tt σ2 H2 fun b H3 =>
      if b = true then te σ2 H3 fun y H4 => ∃ acc, H4 DD = some (.lst acc) ∧ acc.length < sizeLine ∧ Pv (i + 1) (upd H4 DD (.lst (acc ++ [y]))) else Pv (i + 1) H3) (hd : ∀ H, Pv xs.length H → Qd H) :
    ∃ W : Nat → Nat → Hp → Prop, (∃ m, W 0 m (upd H1 DD (.lst []))) ∧ ∀ i m H, W i m H →
      ((Ite K a).stop i H ∧ Qd H) ∨ ((Ite K a).go i H ∧ ∃ Nx : Hp → Prop, (∀ H', Nx H' → ∃ m', m' < m ∧ W (i + 1) m' H') ∧ ∀ x H', (Ite K a).yld i H x H' → g x (wipe σ vs) H' fun σ2 H2 => wipe σ2 vs = wipe σ vs ∧ tt σ2 H2 fun b H3 =>
        if b = true then te σ2 H3 fun y H4 => ∃ acc, H4 DD = some (.lst acc) ∧ acc.length < sizeLine ∧ Nx (upd H4 DD (.lst (acc ++ [y]))) else Nx H3) := by
  refine lc_it walk_enum Pv h0 hq (fun i x H H' hi p y => ?_) hd
  obtain ⟨T, x1, y1, rfl, hT, rfl, h1, h2⟩ := y
  cases h1
  exact hs i y1 T H h2 hT p
/-- zip of two lists of any lengths -/
theorem for_zipM (n : Nat) (hn : n = min xs.length ys.length) (Pv : Nat → L2.St → Hp → Prop) (h0 : Pv 0 σ H) (hq : ∀ i σ H, Pv i σ H → SqL K H a xs ∧ SqL K H b ys)
    (hs : ∀ (i : Nat) (x y : V) (T : Addr) (σ : L2.St) (H : Hp), xs[i]? = some x → ys[i]? = some y → H T = none → Pv i σ H → g (.ref T) σ (upd H T (.tup [x, y])) fun σ2 H2 => tb { D with nx := Pv (i + 1), ct := Pv (i + 1), bk := D.nx } σ2 H2) (hd : ∀ σ H, Pv n σ H → D.nx σ H) :
    ∃ W : Nat → Nat → L2.St → Hp → Prop, (∃ m, W 0 m σ H) ∧ ∀ i m σ H, W i m σ H →
      ((Itz K a b).stop i H ∧ D.nx σ H) ∨ ((Itz K a b).go i H ∧ ∃ N : L2.St → Hp → Prop, (∀ σ' H', N σ' H' → ∃ m', m' < m ∧ W (i + 1) m' σ' H') ∧ ∀ v H', (Itz K a b).yld i H v H' → g v σ H' fun σ2 H2 => tb { D with nx := N, ct := N, bk := D.nx } σ2 H2) := by
  refine for_it (walk_zip hn) Pv h0 (fun i σ H _ p => hq i σ H p) (fun i x σ H H' hi p y => ?_) hd
  obtain ⟨T, x1, y1, rfl, hT, rfl, h1, h2⟩ := y
  exact hs i x1 y1 T σ H h1 h2 hT p
theorem lc_zipM (n : Nat) (hn : n = min xs.length ys.length) (Pv : Nat → Hp → Prop) (h0 : Pv 0 (upd H1 DD (.lst []))) (hq : ∀ i H, i ≤ n → Pv i H → SqL K H a xs ∧ SqL K H b ys)
    (hs : ∀ (i : Nat) (x y : V) (T : Addr) (H : Hp), xs[i]? = some x → ys[i]? = some y → H T = none → Pv i H → g (.ref T) (wipe σ vs) (upd H T (.tup [x, y])) fun σ2 H2 => wipe σ2 vs = wipe σ vs ∧ tt σ2 H2 fun b H3 =>
      if b = true then te σ2 H3 fun y H4 => ∃ acc, H4 DD = some (.lst acc) ∧ acc.length < sizeLine ∧ Pv (i + 1) (upd H4 DD (.lst (acc ++ [y]))) else Pv (i + 1) H3) (hd : ∀ H, Pv n H → Qd H) :
    ∃ W : Nat → Nat → Hp → Prop, (∃ m, W 0 m (upd H1 DD (.lst []))) ∧ ∀ i m H, W i m H →
      ((Itz K a b).stop i H ∧ Qd H) ∨ ((Itz K a b).go i H ∧ ∃ Nx : Hp → Prop, (∀ H', Nx H' → ∃ m', m' < m ∧ W (i + 1) m' H') ∧ ∀ x H', (Itz K a b).yld i H x H' → g x (wipe σ vs) H' fun σ2 H2 => wipe σ2 vs = wipe σ vs ∧ tt σ2 H2 fun b H3 =>
        if b = true then te σ2 H3 fun y H4 => ∃ acc, H4 DD = some (.lst acc) ∧ acc.length < sizeLine ∧ Nx (upd H4 DD (.lst (acc ++ [y]))) else Nx H3) := by
  refine lc_it (walk_zip hn) Pv h0 hq (fun i x H H' hi p y => ?_) hd
  obtain ⟨T, x1, y1, rfl, hT, rfl, h1, h2⟩ := y
  exact hs i x1 y1 T H h1 h2 hT p
end
theorem zipM_len {α β : Type} {xs : List α} {ys : List β} : min xs.length ys.length = (xs.zip ys).length := by rw [List.length_zip]
theorem zipM_n {α β : Type} {vs ws : List V} {xs : List α} {ys : List β} (a : vs.length = xs.length) (b : ws.length = ys.length) : min xs.length ys.length = min vs.length ws.length := by rw [a, b]
def rListTK (K : PySem.W.Frag) : List V → Hp → VK → Prop := fun xs H Q => ∃ (p : Addr) (vs : List V), xs = [.ref p] ∧ SqT K H p vs ∧ ∀ l, H l = none → Q (.ref l) (upd H l (.lst vs))
theorem call_listTK {X : Cx} {K : PySem.W.Frag} (hK : X.K = K := by rfl) : CallR X (.type "list") (rListTK K) := by
  subst hK
  intro pins s σ H xs us Q I r h
  obtain ⟨p, vs, rfl, hs, q⟩ := h
  exact call_list_of pins s σ H _ us Q I r ⟨p, _, rfl, Or.inr hs, q⟩
/-- two lists that keep step -/
inductive F2 {α β : Type} (P : α → β → Prop) : List α → List β → Prop
  | nil : F2 P [] []
  | cons {a : α} {b : β} {l : List α} {m : List β} (h : P a b) (t : F2 P l m) : F2 P (a :: l) (b :: m)
theorem F2.get {α β : Type} {P : α → β → Prop} : ∀ {l : List α} {m : List β}, F2 P l m → ∀ (j : Nat), j < l.length → ∃ a b, l[j]? = some a ∧ m[j]? = some b ∧ P a b
  | _, _, .nil, j, h => absurd h (Nat.not_lt_zero _)
  | _, _, .cons h t, 0, _ => ⟨_, _, rfl, rfl, h⟩
  | _, _, .cons h t, j + 1, hj => t.get j (Nat.lt_of_succ_lt_succ hj)
theorem F2.at {α β : Type} [Inhabited α] [Inhabited β] {P : α → β → Prop} {l : List α} {m : List β} (h : F2 P l m) (k : Int) (h0 : 0 ≤ k) (h1 : k < l.length) : P (itD l k) (itD m k) := by
  obtain ⟨j, rfl⟩ : ∃ j : Nat, k = (j : Int) := ⟨k.toNat, by omega⟩
  obtain ⟨a, b, ha, hb, p⟩ := h.get j (by omega)
  have e1 : itD l (j : Int) = a := by unfold itD; rw [atI_nat ha]; rfl
  have e2 : itD m (j : Int) = b := by unfold itD; rw [atI_nat hb]; rfl
  rw [e1, e2]
  exact p
theorem SqT.cast {K : PySem.W.Frag} {H : Hp} {a : Addr} {xs ys : List V} (h : SqT K H a xs) (e : xs = ys) : SqT K H a ys := e ▸ h
/-- enumerate(xs) -/
def enumL {α : Type} (xs : List α) : List (Int × α) := (rng 0 xs.length).zip xs
theorem enumL_len {α : Type} (xs : List α) : (enumL xs).length = xs.length := by
  unfold enumL
  rw [List.length_zip, rng_len, Nat.min_self]
theorem enumL_get {α : Type} {xs : List α} {i : Nat} {x : α} (h : xs[i]? = some x) : (enumL xs)[i]? = some ((i : Int), x) := by
  have hl : i < xs.length := (List.getElem?_eq_some_iff.mp h).1
  unfold enumL
  rw [List.getElem?_zip_eq_some]
  refine ⟨?_, h⟩
  have := rng_get (lo := 0) hl
  rw [this]
  congr 1
  omega
end Vx
namespace Vx
open PySem PySem.Spec PyProof.Rows L2
theorem wipe_get : ∀ (σ : L2.St) (vs : List Nat) (j : Nat), (wipe σ vs)[j]? = if j ∈ vs ∧ j < σ.length then some none else σ[j]?
  | σ, [], j => by simp [wipe]
  | σ, v :: vs, j => by
    unfold wipe
    by_cases e : v = j
    · subst e
      by_cases h : v < σ.length
      · rw [List.getElem?_set_self (by rw [wipe_length]; exact h), if_pos ⟨List.mem_cons_self, h⟩]
      · rw [if_neg (fun z => h z.2), List.getElem?_eq_none (by rw [List.length_set, wipe_length]; omega), List.getElem?_eq_none (by omega)]
    · rw [List.getElem?_set_ne e, wipe_get σ vs j]
      have : (j ∈ v :: vs ∧ j < σ.length) ↔ (j ∈ vs ∧ j < σ.length) := by
        constructor
        · rintro ⟨h1, h2⟩
          rcases List.mem_cons.mp h1 with rfl | h1
          · exact absurd rfl e
          · exact ⟨h1, h2⟩
        · rintro ⟨h1, h2⟩
          exact ⟨List.mem_cons_of_mem _ h1, h2⟩
      by_cases q : j ∈ vs ∧ j < σ.length
      · rw [if_pos q, if_pos (this.mpr q)]
      · rw [if_neg q, if_neg (fun z => q (this.mp z))]
theorem wipe_wipe {σ : L2.St} {vs : List Nat} : wipe (wipe σ vs) vs = wipe σ vs := by
  apply List.ext_getElem?
  intro j
  rw [wipe_get (wipe σ vs), wipe_length]
  by_cases q : j ∈ vs ∧ j < σ.length
  · rw [if_pos q, wipe_get, if_pos q]
  · rw [if_neg q]
theorem wipe_set {σ : L2.St} {vs : List Nat} {v : Nat} {x : Option V} (h : v ∈ vs) : wipe (σ.set v x) vs = wipe σ vs := by
  apply List.ext_getElem?
  intro j
  rw [wipe_get, wipe_get, List.length_set]
  by_cases q : j ∈ vs ∧ j < σ.length
  · rw [if_pos q, if_pos q]
  · rw [if_neg q, if_neg q]
    by_cases e : v = j
    · subst e
      have hl : ¬ v < σ.length := fun z => q ⟨h, z⟩
      rw [List.getElem?_eq_none (by rw [List.length_set]; omega), List.getElem?_eq_none (by omega)]
    · rw [List.getElem?_set_ne e]
/-- a comprehension over a step range -/
theorem lc_rangeC {lo c : Int} {n : Nat} {g : TG} {tt : TT} {te : TE} {vs : List Nat} {σ : L2.St} {H1 : Hp} {D : Addr} {Qd : Hp → Prop} (Pv : Nat → Hp → Prop) (h0 : Pv 0 (upd H1 D (.lst [])))
    (hs : ∀ i H, i < n → Pv i H → g (.int (lo + (i : Nat) * c)) (wipe σ vs) H fun σ2 H2 => wipe σ2 vs = wipe σ vs ∧ tt σ2 H2 fun b H3 =>
      if b = true then te σ2 H3 fun y H4 => ∃ acc, H4 D = some (.lst acc) ∧ acc.length < sizeLine ∧ Pv (i + 1) (upd H4 D (.lst (acc ++ [y]))) else Pv (i + 1) H3) (hd : ∀ H, Pv n H → Qd H) :
    ∃ W : Nat → Nat → Hp → Prop, (∃ m, W 0 m (upd H1 D (.lst []))) ∧ ∀ i m H, W i m H →
      ((Itc lo c n).stop i H ∧ Qd H) ∨ ((Itc lo c n).go i H ∧ ∃ Nx : Hp → Prop, (∀ H', Nx H' → ∃ m', m' < m ∧ W (i + 1) m' H') ∧ ∀ x H', (Itc lo c n).yld i H x H' → g x (wipe σ vs) H' fun σ2 H2 => wipe σ2 vs = wipe σ vs ∧ tt σ2 H2 fun b H3 =>
        if b = true then te σ2 H3 fun y H4 => ∃ acc, H4 D = some (.lst acc) ∧ acc.length < sizeLine ∧ Nx (upd H4 D (.lst (acc ++ [y]))) else Nx H3) := by
  refine ⟨fun i m H => m = n - i ∧ i ≤ n ∧ Pv i H, ⟨n, by simp, Nat.zero_le _, h0⟩, ?_⟩
  rintro i m H ⟨rfl, hi, p⟩
  rcases Nat.lt_or_ge i n with hlt | hge
  · refine .inr ⟨hlt, Pv (i + 1), fun H' p' => ⟨n - (i + 1), by omega, rfl, hlt, p'⟩, fun x H' y => ?_⟩
    obtain ⟨e, y⟩ := y
    subst e y
    exact hs i _ hlt p
  · cases Nat.le_antisymm hi hge
    exact .inl ⟨Nat.le_refl _, hd H p⟩

/-! ### reversed(list of ints), any(list of ints) -/
theorem pi_revK {X : Cx} {K : PySem.W.Frag} {tg : Expr} {e : Expr} {ta : TA} {p pos : Pos} (hg : Gl X "reversed") (hm : X.mg "reversed" = none) (ha : PA X [e] ta) (hK : X.K = K := by rfl) (hs : starEach [e] X.env = [(false, eval e X.env)] := by rfl) :
    PI X tg (.Call (.Name "reversed" p) [e] [] pos) (iRev K ta) := hK ▸ pi_reversed hg hm ha hs
theorem for_revI {K : PySem.W.Frag} {a : Addr} {xs : List Int} {g : TG} {tb : TS} {D : Ends} {σ : L2.St} {H : Hp} (Pv : Nat → L2.St → Hp → Prop) (h0 : Pv 0 σ H) (hl : ∀ i σ H, i ≤ (xs.reverse.map V.int).length → Pv i σ H → SqL K H a (xs.map V.int))
    (hs : ∀ i x σ H, (xs.reverse.map V.int)[i]? = some x → Pv i σ H → g x σ H fun σ2 H2 => tb { D with nx := Pv (i + 1), ct := Pv (i + 1), bk := D.nx } σ2 H2) (hd : ∀ σ H, Pv (xs.reverse.map V.int).length σ H → D.nx σ H) :
    ∃ W : Nat → Nat → L2.St → Hp → Prop, (∃ m, W 0 m σ H) ∧ ∀ i m σ H, W i m σ H →
      ((Itv K a (xs.map V.int).length).stop i H ∧ D.nx σ H) ∨ ((Itv K a (xs.map V.int).length).go i H ∧ ∃ N : L2.St → Hp → Prop, (∀ σ' H', N σ' H' → ∃ m', m' < m ∧ W (i + 1) m' σ' H') ∧ ∀ x H', (Itv K a (xs.map V.int).length).yld i H x H' → g x σ H' fun σ2 H2 => tb { D with nx := N, ct := N, bk := D.nx } σ2 H2) := by
  have en : (xs.reverse.map V.int).length = (xs.map V.int).length := by rw [List.length_map, List.length_map, List.length_reverse]
  rw [en] at hl hd
  refine for_it walk_rev Pv h0 hl (fun i x σ H H' hi p y => ?_) hd
  obtain ⟨rfl, hx⟩ := y
  refine hs i x σ _ ?_ p
  rw [List.map_reverse, List.getElem?_reverse hi]
  exact hx
theorem ints_get : ∀ {ns : List Int} {us : List Value} {i : Nat} {v : Value}, IntsAre us ns → us[i]? = some v → ∃ t, v = .int (ns.getD i 0) t := by
  intro ns us i v h
  induction h generalizing i with
  | nil => intro z; simp at z
  | cons n t _ ih =>
    intro z
    cases i with
    | zero => simp at z; exact ⟨t, by rw [← z]; rfl⟩
    | succ i => exact ih (by simpa using z)
theorem any_rangeI : ∀ ns : List Int, (List.range ns.length).any (fun i => ns.getD i 0 != 0) = ns.any (fun x => x != 0)
  | [] => rfl
  | b :: bs => by
    rw [List.length_cons, List.range_succ_eq_map, List.any_cons, List.any_map, List.any_cons, ← any_rangeI bs]
    all_goals rfl
theorem ints_len : ∀ {ns : List Int} {us : List Value}, IntsAre us ns → us.length = ns.length := by
  intro ns us h
  induction h with
  | nil => rfl
  | cons _ _ _ ih => simp [ih]
def rAnyI (K : PySem.W.Frag) : List V → Hp → VK → Prop := fun vs H Q => ∃ (a : Addr) (ns : List Int), vs = [V.ref a] ∧ SqL K H a (ns.map V.int) ∧ Q (.bl (ns.any fun x => x != 0)) H
theorem cr_anyI {X : Cx} (hc : X.calm = true) : CallR X (.builtin "any") (rAnyI X.K) := by
  intro pins s σ H vs us Q I r h
  obtain ⟨a, ns, rfl, hs, q⟩ := h
  obtain ⟨its, rv, hl, _⟩ := I.list hs
  rw [Vals.ref1 r]
  have hb := rv.ints
  refine call_any_walk (iter_any hl.isList fun s₂ e2 st hne => ?_)
  subst e2
  have ht : TruthOf X.prog X.w X.A.in1 (fun i v => its.toArray[i]? = some v) (fun i => ns.getD i 0 != 0) := fun i v s Q E hv hq => by
    obtain ⟨t, rfl⟩ := ints_get hb (by simpa using hv)
    exact PyProof.Rows.truthy_int hq
  refine ⟨_, _, _, _, _, _, _, rfl, Walks.list (A := X.A.in1) (I.ok.hd hc) _ a hne its.toArray, st, ht, fun h' tk hk => ?_⟩
  refine ⟨.bl _, H, I.kept fun b o eo => hk b o (fun hmem => ?_) (Heap.get?_push_of_some _ eo), ?_, q⟩
  · rcases List.mem_cons.mp hmem with e1 | hmem
    · exact absurd (e1 ▸ Heap.lt_size eo) (Nat.lt_irrefl _)
    · cases hmem
  · show Value.bool _ = Value.bool _
    rw [← any_rangeI, List.size_toArray, ints_len hb]
theorem cr_anyIK {X : Cx} {K : PySem.W.Frag} (hc : X.calm = true) (hK : X.K = K := by rfl) : CallR X (.builtin "any") (rAnyI K) := hK ▸ cr_anyI hc
/-- an item of a list of data stored anew -/
theorem RpAll.setM {α : Type} {f : α → PyData} {G : Hp} {vs : List V} {xs : List α} {k : Int} {v : V} {y : α} (d : RpAll G vs (xs.map f)) (r : Rp G v (f y)) : RpAll G (vs.set ((ixN vs.length k).getD 0) v) ((setL xs k y).map f) := by
  have e : vs.length = xs.length := by rw [d.len, List.length_map]
  unfold setL
  rw [List.map_set, e]
  exact RpAll.set r _ d
end Vx
/-! # data of any shape: None beside data, tuples of several shapes -/
namespace Vx
open PySem PySem.Spec PyProof.Rows L2
def encD (d : PyData) : PyData := d
def encN (_ : Unit) : PyData := .none
def encT1 {α : Type} (f : α → PyData) (x : α) : PyData := .tuple [f x]
instance instInhD : Inhabited PyData := ⟨.none⟩
/-- a known shape: what is laid, what is read back, whether the data has the shape -/
structure Cst (α : Type) where
  enc : α → PyData
  dec : PyData → α
  ok : PyData → Bool
  h : ∀ d, ok d = true → enc (dec d) = d
  oke : ∀ x, ok (enc x) = true
  de : ∀ x, dec (enc x) = x
def cI : Cst Int := ⟨PyData.int, fun d => match d with | .int i => i | _ => 0, fun d => match d with | .int _ => true | _ => false, fun d h => (by cases d <;> first | rfl | (cases h)), fun _ => rfl, fun _ => rfl⟩
def cB : Cst Bool := ⟨PyData.bool, fun d => match d with | .bool i => i | _ => false, fun d => match d with | .bool _ => true | _ => false, fun d h => (by cases d <;> first | rfl | (cases h)), fun _ => rfl, fun _ => rfl⟩
def cS : Cst Str := ⟨PyData.str, fun d => match d with | .str i => i | _ => "", fun d => match d with | .str _ => true | _ => false, fun d h => (by cases d <;> first | rfl | (cases h)), fun _ => rfl, fun _ => rfl⟩
def cN : Cst Unit := ⟨encN, fun _ => (), fun d => match d with | .none => true | _ => false, fun d h => (by cases d <;> first | rfl | (cases h)), fun _ => rfl, fun _ => rfl⟩
def cD : Cst PyData := ⟨encD, fun d => d, fun _ => true, fun _ _ => rfl, fun _ => rfl, fun _ => rfl⟩
theorem map_dec {α : Type} (c : Cst α) : ∀ xs : List PyData, xs.all c.ok = true → (xs.map c.dec).map c.enc = xs
  | [], _ => rfl
  | x :: xs, h => by
    rw [List.all_cons, Bool.and_eq_true] at h
    rw [List.map_cons, List.map_cons, c.h x h.1, map_dec c xs h.2]
def cL {α : Type} (c : Cst α) : Cst (List α) where
  enc := encL c.enc
  dec := fun d => match d with | .list xs => xs.map c.dec | _ => []
  ok := fun d => match d with | .list xs => xs.all c.ok | _ => false
  h := fun d h => by
    cases d with
    | list xs => exact congrArg PyData.list (map_dec c xs h)
    | _ => cases h
  oke := fun x => by
    show (x.map c.enc).all c.ok = true
    rw [List.all_map, List.all_eq_true]
    exact fun a _ => c.oke a
  de := fun x => by
    show (x.map c.enc).map c.dec = x
    rw [List.map_map]
    have e : c.dec ∘ c.enc = id := funext c.de
    rw [e, List.map_id]
def cT1 {α : Type} (a : Cst α) : Cst α where
  enc := encT1 a.enc
  dec := fun d => match d with | .tuple [x] => a.dec x | _ => a.dec .none
  ok := fun d => match d with | .tuple [x] => a.ok x | _ => false
  h := fun d h => by
    split at h
    · next x => exact congrArg (fun z => PyData.tuple [z]) (a.h x h)
    · cases h
  oke := fun x => a.oke x
  de := fun x => a.de x
def cT2 {α β : Type} (a : Cst α) (b : Cst β) : Cst (α × β) where
  enc := encT2 a.enc b.enc
  dec := fun d => match d with | .tuple [x, y] => (a.dec x, b.dec y) | _ => (a.dec .none, b.dec .none)
  ok := fun d => match d with | .tuple [x, y] => a.ok x && b.ok y | _ => false
  h := fun d h => by
    split at h
    · next x y =>
      rw [Bool.and_eq_true] at h
      show PyData.tuple [a.enc (a.dec x), b.enc (b.dec y)] = _
      rw [a.h x h.1, b.h y h.2]
    · cases h
  oke := fun x => by show (a.ok (a.enc x.1) && b.ok (b.enc x.2)) = true; rw [a.oke, b.oke]; rfl
  de := fun x => by show (a.dec (a.enc x.1), b.dec (b.enc x.2)) = x; rw [a.de, b.de]
def cT3 {α β γ : Type} (a : Cst α) (b : Cst β) (c : Cst γ) : Cst (α × β × γ) where
  enc := encT3 a.enc b.enc c.enc
  dec := fun d => match d with | .tuple [x, y, z] => (a.dec x, b.dec y, c.dec z) | _ => (a.dec .none, b.dec .none, c.dec .none)
  ok := fun d => match d with | .tuple [x, y, z] => a.ok x && b.ok y && c.ok z | _ => false
  h := fun d h => by
    split at h
    · next x y z =>
      simp only [Bool.and_eq_true] at h
      show PyData.tuple [a.enc (a.dec x), b.enc (b.dec y), c.enc (c.dec z)] = _
      rw [a.h x h.1.1, b.h y h.1.2, c.h z h.2]
    · cases h
  oke := fun x => by show (a.ok (a.enc x.1) && b.ok (b.enc x.2.1) && c.ok (c.enc x.2.2)) = true; rw [a.oke, b.oke, c.oke]; rfl
  de := fun x => by show (a.dec (a.enc x.1), b.dec (b.enc x.2.1), c.dec (c.enc x.2.2)) = x; rw [a.de, b.de, c.de]
def cT4 {α β γ δ : Type} (a : Cst α) (b : Cst β) (c : Cst γ) (e : Cst δ) : Cst (α × β × γ × δ) where
  enc := encT4 a.enc b.enc c.enc e.enc
  dec := fun d => match d with | .tuple [x, y, z, w] => (a.dec x, b.dec y, c.dec z, e.dec w) | _ => (a.dec .none, b.dec .none, c.dec .none, e.dec .none)
  ok := fun d => match d with | .tuple [x, y, z, w] => a.ok x && b.ok y && c.ok z && e.ok w | _ => false
  h := fun d h => by
    split at h
    · next x y z w =>
      simp only [Bool.and_eq_true] at h
      show PyData.tuple [a.enc (a.dec x), b.enc (b.dec y), c.enc (c.dec z), e.enc (e.dec w)] = _
      rw [a.h x h.1.1.1, b.h y h.1.1.2, c.h z h.1.2, e.h w h.2]
    · cases h
  oke := fun x => by show (a.ok (a.enc x.1) && b.ok (b.enc x.2.1) && c.ok (c.enc x.2.2.1) && e.ok (e.enc x.2.2.2)) = true; rw [a.oke, b.oke, c.oke, e.oke]; rfl
  de := fun x => by show (a.dec (a.enc x.1), b.dec (b.enc x.2.1), c.dec (c.enc x.2.2.1), e.dec (e.enc x.2.2.2)) = x; rw [a.de, b.de, c.de, e.de]
section
variable {H : Hp} {v : V} {d : PyData}
theorem rp_dcast {α : Type} (c : Cst α) (g : c.ok d = true) (r : Rp H v d) : Rp H v (c.enc (c.dec d)) := by rw [c.h d g]; exact r
def dNone : PyData → Bool
  | .none => true
  | _ => false
def dSeq : PyData → Bool
  | .list _ => true
  | .tuple _ => true
  | _ => false
def dTup : PyData → Bool
  | .tuple _ => true
  | _ => false
def dLst : PyData → Bool
  | .list _ => true
  | _ => false
def dInt : PyData → Bool
  | .int _ => true
  | .bool _ => true
  | _ => false
def dBool : PyData → Bool
  | .bool _ => true
  | _ => false
def dGet : PyData → Nat → PyData
  | .tuple xs, k => xs.getD k .none
  | .list xs, k => xs.getD k .none
  | _, _ => .none
def dHasT : PyData → Nat → Bool
  | .tuple xs, k => decide (k < xs.length)
  | _, _ => false
theorem rp_ref (g : dSeq d = true) (r : Rp H v d) : ∃ a, v = .ref a := by
  cases r <;> first | exact ⟨_, rfl⟩ | cases g
theorem rp_dget {k : Nat} (g : dHasT d k = true) (r : Rp H v d) : ∃ a vs u, v = .ref a ∧ H a = some (.tup vs) ∧ atI vs (k : Int) = some u ∧ Rp H u (dGet d k) := by
  cases r with
  | tup h rs =>
    rename_i ds
    have hk : k < ds.length := of_decide_eq_true g
    obtain ⟨u, h1, h2⟩ := RpAll.at' (i := k) (d := ds[k]) rs (List.getElem?_eq_getElem hk)
    refine ⟨_, _, u, rfl, h, ?_, ?_⟩
    · exact atI_nat h1
    · show Rp H u (ds.getD k .none)
      rw [List.getD_eq_getElem?_getD, List.getElem?_eq_getElem hk]
      exact h2
  | _ => cases g
theorem rp_non {x : Unit} (r : Rp H v (encN x)) : v = .non := by unfold encN at r; cases r; rfl
theorem rp_tup1 {α : Type} {f : α → PyData} {x : α} (r : Rp H v (encT1 f x)) : ∃ a v1, v = .ref a ∧ H a = some (.tup [v1]) ∧ Rp H v1 (f x) := by
  unfold encT1 at r
  cases r with
  | tup h1 h2 =>
    cases h2 with
    | cons r1 t => cases t; exact ⟨_, _, rfl, h1, r1⟩
theorem rp_mk1 {α : Type} {f : α → PyData} {a : Addr} {v1 : V} {x : α} (h1 : H a = some (.tup [v1])) (r1 : Rp H v1 (f x)) : Rp H (.ref a) (encT1 f x) := .tup h1 (.cons r1 .nil)
theorem rp_none_iff (r : Rp H v d) : decide (v = V.non) = dNone d := by
  cases r <;> simp [dNone]
end
section
variable {X : Cx}
def rIsND : R2 := fun x y H Q => ∃ d, y = .non ∧ Rp H x d ∧ Q (.bl (dNone d)) H
def rNotND : R2 := fun x y H Q => ∃ d, y = .non ∧ Rp H x d ∧ Q (.bl (!dNone d)) H
theorem op_isND : OpR X (compareOp .Is) rIsND := by
  intro pins s σ H x y v u Q I rx ry h
  obtain ⟨d, e, r, q⟩ := h
  exact op_isN pins s σ H x y v u Q I rx ry ⟨e, by rw [rp_none_iff r]; exact q⟩
theorem op_notND : OpR X (compareOp .IsNot) rNotND := by
  intro pins s σ H x y v u Q I rx ry h
  obtain ⟨d, e, r, q⟩ := h
  exact op_notN pins s σ H x y v u Q I rx ry ⟨e, by rw [rp_none_iff r]; exact q⟩
def rEqD : R2 := fun x y H Q => ∃ a b : PyData, Rp H x a ∧ Rp H y b ∧ (SeqAt.shaped a = true ∧ SeqAt.shaped b = true) ∧ Q (.bl (PyData.eqv a b)) H
def rNeD : R2 := fun x y H Q => ∃ a b : PyData, Rp H x a ∧ Rp H y b ∧ (SeqAt.shaped a = true ∧ SeqAt.shaped b = true) ∧ Q (.bl (!PyData.eqv a b)) H
theorem op_eqDD (hu : X.A.units + 64 < cLine) : OpR X (compareOp .Eq) rEqD := by
  intro pins s σ H x y v u Q I rx ry h
  obtain ⟨a, b, h1, h2, ⟨s1, s2⟩, q⟩ := h
  exact op_eqD hu pins s σ H _ _ v u Q I rx ry ⟨_, _, h1.dp, h2.dp, s1, s2, q⟩
theorem op_neDD (hu : X.A.units + 64 < cLine) : OpR X (compareOp .NotEq) rNeD := by
  intro pins s σ H x y v u Q I rx ry h
  obtain ⟨a, b, h1, h2, ⟨s1, s2⟩, q⟩ := h
  exact op_neD hu pins s σ H _ _ v u Q I rx ry ⟨_, _, h1.dp, h2.dp, s1, s2, q⟩
def dTy : PyData → String
  | .none => "NoneType"
  | .bool _ => "bool"
  | .int _ => "int"
  | .str _ => "str"
  | .list _ => "list"
  | .tuple _ => "tuple"
  | .dict _ => "dict"
theorem Rp.tyX {K : PySem.W.Frag} {H : Hp} {v : V} {d : PyData} (r : Rp H v d) : TyX K H v (.type (dTy d)) := by
  cases r with
  | non => exact .base .non
  | bl b => exact .base (.bl b)
  | int i => exact .base (.int i)
  | str x => exact .base (.str x)
  | lst h _ => exact .base (.lst h)
  | tup h _ => exact .base (.tup h)
def rIsiD (T : String) (f : PyData → Bool) : List V → Hp → VK → Prop := fun xs H Q => ∃ (x : V) (d : PyData), xs = [x, .ty T] ∧ Rp H x d ∧ Q (.bl (f d)) H
theorem call_isiD {T : String} {f : PyData → Bool} (hT : ∀ d, kitB (dTy d) T = some (f d)) : CallR X (.builtin "isinstance") (rIsiD T f) := by
  intro pins s σ H xs us Q I r h
  obtain ⟨x, d, rfl, rx, q⟩ := h
  exact call_isi pins s σ H _ us Q I r ⟨x, .ty T, _, _, _, rfl, .ty T, rx.tyX, kit_ty (hT d), q⟩
theorem kit_dTup (d : PyData) : kitB (dTy d) "tuple" = some (dTup d) := by
  cases d with
  | none => exact (by decide +kernel : kitB "NoneType" "tuple" = some false)
  | bool _ => exact (by decide +kernel : kitB "bool" "tuple" = some false)
  | int _ => exact (by decide +kernel : kitB "int" "tuple" = some false)
  | str _ => exact (by decide +kernel : kitB "str" "tuple" = some false)
  | list _ => exact (by decide +kernel : kitB "list" "tuple" = some false)
  | tuple _ => exact (by decide +kernel : kitB "tuple" "tuple" = some true)
  | dict _ => exact (by decide +kernel : kitB "dict" "tuple" = some false)
theorem kit_dLst (d : PyData) : kitB (dTy d) "list" = some (dLst d) := by
  cases d with
  | none => exact (by decide +kernel : kitB "NoneType" "list" = some false)
  | bool _ => exact (by decide +kernel : kitB "bool" "list" = some false)
  | int _ => exact (by decide +kernel : kitB "int" "list" = some false)
  | str _ => exact (by decide +kernel : kitB "str" "list" = some false)
  | list _ => exact (by decide +kernel : kitB "list" "list" = some true)
  | tuple _ => exact (by decide +kernel : kitB "tuple" "list" = some false)
  | dict _ => exact (by decide +kernel : kitB "dict" "list" = some false)
theorem kit_dInt (d : PyData) : kitB (dTy d) "int" = some (dInt d) := by
  cases d with
  | none => exact (by decide +kernel : kitB "NoneType" "int" = some false)
  | bool _ => exact (by decide +kernel : kitB "bool" "int" = some true)
  | int _ => exact (by decide +kernel : kitB "int" "int" = some true)
  | str _ => exact (by decide +kernel : kitB "str" "int" = some false)
  | list _ => exact (by decide +kernel : kitB "list" "int" = some false)
  | tuple _ => exact (by decide +kernel : kitB "tuple" "int" = some false)
  | dict _ => exact (by decide +kernel : kitB "dict" "int" = some false)
theorem kit_dBool (d : PyData) : kitB (dTy d) "bool" = some (dBool d) := by
  cases d with
  | none => exact (by decide +kernel : kitB "NoneType" "bool" = some false)
  | bool _ => exact (by decide +kernel : kitB "bool" "bool" = some true)
  | int _ => exact (by decide +kernel : kitB "int" "bool" = some false)
  | str _ => exact (by decide +kernel : kitB "str" "bool" = some false)
  | list _ => exact (by decide +kernel : kitB "list" "bool" = some false)
  | tuple _ => exact (by decide +kernel : kitB "tuple" "bool" = some false)
  | dict _ => exact (by decide +kernel : kitB "dict" "bool" = some false)
end
/-! ### written dicts of numbers with text keys -/
inductive ES (P : Params) : List (Str × Int) → List DictEntry → Prop
  | nil : ES P [] []
  | cons {h k v} {t u : Tok} {r : List (Str × Int)} {es : List DictEntry} (e : h = PyData.keyHash P k) (x : ES P r es) : ES P ((k, v) :: r) (⟨h, .str k t, .int v u⟩ :: es)
def lookS : List (Str × Int) → Str → Option Int
  | [], _ => none
  | (k, v) :: r, i => if k = i then some v else lookS r i
def KDS (K : PySem.W.Frag) (w : World) (a : Addr) (kvs : List (Str × Int)) : Prop :=
  ∃ es n, K.lookup a = some ⟨.type "dict", none, .dict es n, #[]⟩ ∧ ES w.params kvs es.toList
theorem ES.lit {P : Params} : ∀ {kvs : List (Str × Int)} {es : List DictEntry}, ES P kvs es → PySem.W.KeysLit P es
  | _, _, .nil => trivial
  | _, _, .cons e x => ⟨⟨_, _, rfl, e⟩, ES.lit x⟩
theorem ES.find {P : Params} {i : Str} {v : Int} : ∀ {kvs : List (Str × Int)} {es : List DictEntry}, ES P kvs es → lookS kvs i = some v → ∃ e u, es.find? (fun e => e.key.isStr i) = some e ∧ e.val = .int v u
  | _, _, .nil, h => by cases h
  | _, _, .cons (k := k) (u := u) e x, h => by
    unfold lookS at h
    by_cases q : k = i
    · rw [if_pos q] at h
      subst q
      cases h
      refine ⟨_, u, List.find?_cons_of_pos ?_, rfl⟩
      simp [Value.isStr]
    · rw [if_neg q] at h
      obtain ⟨e', u', h1, h2⟩ := ES.find x h
      refine ⟨e', u', ?_, h2⟩
      rw [List.find?_cons_of_neg]
      · exact h1
      · simp [Value.isStr, q]
theorem KDS.at {K : PySem.W.Frag} {w : World} {a : Addr} {kvs : List (Str × Int)} {z : Str} {v : Int} (D : KDS K w a kvs) (h : lookS kvs z = some v) : KDct K w a z (.int v) := by
  obtain ⟨es, n, hl, x⟩ := D
  obtain ⟨e, u, h1, h2⟩ := x.find h
  refine ⟨es, n, .int v u, hl, x.lit, ?_, ⟨u, rfl⟩⟩
  unfold PySem.W.nsIn
  rw [hl]
  show (match es.toList.find? (fun e => e.key.isStr z) with
      | some e => some (some e.val)
      | none => if es.toList.any (·.refKey) then none else some none) = _
  rw [h1]
  show some (some e.val) = _
  rw [h2]
def rIxDS (K : PySem.W.Frag) (w : World) : R2 := fun x y H Q => ∃ (p : Addr) (z : Str) (kvs : List (Str × Int)) (v : Int), x = .ref p ∧ y = .str z ∧ KDS K w p kvs ∧ lookS kvs z = some v ∧ Q (.int v) H
theorem ix_DS {X : Cx} {K : PySem.W.Frag} {w : World} (hK : X.K = K := by rfl) (hw : X.w = w := by rfl) : IxR X (rIxDS K w) := by
  subst hK hw
  intro value slice pins s σ H x y v u Q I rx ry h hs
  obtain ⟨p, z, kvs, r, e1, e2, D, e, q⟩ := h
  exact ix_kdict value slice pins s σ H x y v u Q I rx ry ⟨p, z, .int r, e1, e2, D.at e, q⟩ hs
def dictS (kvs : List (Str × Int)) (i : Str) : Int := (lookS kvs i).getD 0
def hasS (kvs : List (Str × Int)) (i : Str) : Bool := (lookS kvs i).isSome
theorem lookS_at {kvs : List (Str × Int)} {i : Str} (h : hasS kvs i = true) : lookS kvs i = some (dictS kvs i) := by
  unfold hasS at h
  unfold dictS
  cases e : lookS kvs i with
  | none => rw [e] at h; cases h
  | some v => rfl
/-! ### for the mathematics -/
theorem eqv_enc {α : Type} [DecidableEq α] {n : Nat} {f : α → PyData} (ok : EncOk n f) (x y : α) : PyData.eqv (f x) (f y) = decide (x = y) := ok.eqv x y
end Vx
namespace Vx
open PySem PySem.Spec PyProof.Rows L2
theorem sm_str {x : Str} (h : (reprText x).length ≤ 20) : Sm 1 0 (.str x) := ⟨by simp only [smallD, decide_eq_true_eq]; exact h, by simp [nodes], by simp [PyData.depth]⟩
theorem sm_none : Sm 1 0 (encN ()) := sm_non
theorem sm_T1 {α : Type} {f : α → PyData} {n k : Nat} {p : α} (h1 : Sm n k (f p)) : Sm (1 + n) (k + 1) (encT1 f p) := by
  obtain ⟨a1, a2, a3⟩ := h1
  refine ⟨by simp [encT1, smallD, smallAll, a1], ?_, ?_⟩
  · simp only [encT1, nodes, nodesAll]
    omega
  · simp only [encT1, PyData.depth, PyData.depthAll]
    omega
theorem sm_T4 {α β γ δ : Type} {f : α → PyData} {g : β → PyData} {h : γ → PyData} {e : δ → PyData} {n k m j l i o q : Nat} {p : α × β × γ × δ} (h1 : Sm n k (f p.1)) (h2 : Sm m j (g p.2.1)) (h3 : Sm l i (h p.2.2.1)) (h4 : Sm o q (e p.2.2.2)) : Sm (1 + n + m + l + o) (max k (max j (max i q)) + 1) (encT4 f g h e p) := by
  obtain ⟨a1, a2, a3⟩ := h1
  obtain ⟨b1, b2, b3⟩ := h2
  obtain ⟨c1, c2, c3⟩ := h3
  obtain ⟨d1, d2, d3⟩ := h4
  refine ⟨by simp [encT4, smallD, smallAll, a1, b1, c1, d1], ?_, ?_⟩
  · simp only [encT4, nodes, nodesAll]
    omega
  · simp only [encT4, PyData.depth, PyData.depthAll]
    omega
theorem Sm.enc {n k : Nat} {d : PyData} (h : Sm n k d) : Sm n k (encD d) := h
end Vx
namespace Vx
theorem len8 {α : Type} {l : List α} (h : l.length = 8) : ∃ x0 x1 x2 x3 x4 x5 x6 x7, l = [x0, x1, x2, x3, x4, x5, x6, x7] := by
  obtain ⟨x0, r, rfl, h2⟩ := len_s h
  obtain ⟨x1, x2, x3, x4, x5, x6, x7, rfl⟩ := len7 h2
  exact ⟨x0, x1, x2, x3, x4, x5, x6, x7, rfl⟩
theorem len9 {α : Type} {l : List α} (h : l.length = 9) : ∃ x0 x1 x2 x3 x4 x5 x6 x7 x8, l = [x0, x1, x2, x3, x4, x5, x6, x7, x8] := by
  obtain ⟨x0, r, rfl, h2⟩ := len_s h
  obtain ⟨x1, x2, x3, x4, x5, x6, x7, x8, rfl⟩ := len8 h2
  exact ⟨x0, x1, x2, x3, x4, x5, x6, x7, x8, rfl⟩
theorem len10 {α : Type} {l : List α} (h : l.length = 10) : ∃ x0 x1 x2 x3 x4 x5 x6 x7 x8 x9, l = [x0, x1, x2, x3, x4, x5, x6, x7, x8, x9] := by
  obtain ⟨x0, r, rfl, h2⟩ := len_s h
  obtain ⟨x1, x2, x3, x4, x5, x6, x7, x8, x9, rfl⟩ := len9 h2
  exact ⟨x0, x1, x2, x3, x4, x5, x6, x7, x8, x9, rfl⟩
theorem len11 {α : Type} {l : List α} (h : l.length = 11) : ∃ x0 x1 x2 x3 x4 x5 x6 x7 x8 x9 x10, l = [x0, x1, x2, x3, x4, x5, x6, x7, x8, x9, x10] := by
  obtain ⟨x0, r, rfl, h2⟩ := len_s h
  obtain ⟨x1, x2, x3, x4, x5, x6, x7, x8, x9, x10, rfl⟩ := len10 h2
  exact ⟨x0, x1, x2, x3, x4, x5, x6, x7, x8, x9, x10, rfl⟩
theorem len12 {α : Type} {l : List α} (h : l.length = 12) : ∃ x0 x1 x2 x3 x4 x5 x6 x7 x8 x9 x10 x11, l = [x0, x1, x2, x3, x4, x5, x6, x7, x8, x9, x10, x11] := by
  obtain ⟨x0, r, rfl, h2⟩ := len_s h
  obtain ⟨x1, x2, x3, x4, x5, x6, x7, x8, x9, x10, x11, rfl⟩ := len11 h2
  exact ⟨x0, x1, x2, x3, x4, x5, x6, x7, x8, x9, x10, x11, rfl⟩
end Vx
namespace Vx
open PySem PySem.Spec PyProof.Rows L2
theorem Sep.mutnews {M : List Addr} {H0 G0 G H H' : Hp} {O : List Addr} (S : Sep M H0 G0 G H O) {L : List Addr} (x : SameXs L H H') (hL : ∀ a ∈ L, a ∈ O) (hs : ∀ a ∈ L, H' a ≠ none) (N : List Addr) (hN : ∀ a ∈ N, H a = none ∧ H' a ≠ none ∧ H0 a = none) : Sep M H0 G0 G H' (N ++ O) := by
  have S1 := S.mut x hL hs
  refine ⟨S1.base, S1.pm, S1.sG, S1.g0, S1.gn, fun a ha => ?_⟩
  rcases List.mem_append.mp ha with z | z
  · obtain ⟨h1, h2, h3⟩ := hN a z
    exact ⟨S.gfree h1, h2, .inr h3⟩
  · exact S1.ow a z
end Vx
/-! # sorted(set(xs)), xs a list of numbers -/
namespace Vs
open PySem PySem.Spec PyProof.Rows L2
section
variable {prog : Program} {wo : World} {Ar : Around} {Er : Value → Shared → Prop} {st : Shared}
/-- the object that set.__new__ lays -/
abbrev bare (wo : World) : Obj := { cls := .type "set", dict := none, data := .set #[] 0 (.fresh 0 0 (!wo.params.followText "set-order")) }
theorem get_bare (h : Heap) : (h.push (bare wo)).get? h.objs.size = some (bare wo) := Heap.get?_push_size _ rfl
/-- set.__init__ of a new, empty set over a list of numbers -/
theorem init_list {lst : Addr} {arr : Array Value} {ks : List Int} (calm : Ar.handled = none) (isl : st.heap.IsList lst arr) (hin : IntsAre arr.toList ks) (few : ks.length + 1 < scanBound)
    (R : Result → Shared → Prop)
    (fin : ∀ (g : Heap) (tk c : Nat), SetR wo g st.heap.objs.size (fun j => decide (j ∈ ks)) c → c ≤ ks.length → (∀ b o, st.heap.get? b = some o → g.get? b = some o) → R (.ok (.ret .none)) { st with heap := g, toks := tk }) :
    codeAny (model prog wo) Ar (.call (.builtin "set.__init__") ⟨[.ref st.heap.objs.size, .ref lst], []⟩) R { st with heap := st.heap.push (bare wo) } := by
  have typ : Shared.TypeIs { st with heap := st.heap.push (bare wo) } (.ref st.heap.objs.size) "set" := ⟨_, get_bare _, rfl⟩
  have len : arr.size = ks.length := by
    have z := hin.length
    rwa [Array.length_toList] at z
  refine codeAny_call_builtin F.called_set.init.plain F.entry_set_init (check_set_init_1 typ ?_)
  obtain ⟨⟨k1, k2, k3, k4⟩, ho, e1, m, e2⟩ := isl
  simp only at e1 e2
  subst e1 e2
  have below : lst < st.heap.objs.size := Heap.lt_size ho
  have il : (st.heap.push (bare wo)).IsList lst arr := ⟨_, Heap.get?_push_of_some _ ho, rfl, m, rfl⟩
  have a1 := F.sub_list_set
  have a2 := F.sub_list_frozenset
  have a3 : (Value.type "list" == Value.type "dict") = false := by decide
  have a4 := Heap.get?_push_of_some (bare wo) ho
  unfold Builtin.«set.__init__» noKeywords Builtin.Frozenset.updateFrom
  generalize hw : pyIter = WK
  wp_walk
  subst hw
  refine wpAny_pyIter_list il (wpAny_bind (wpAny_runValue ?_))
  have sz : (st.heap.push (bare wo)).objs.size = st.heap.objs.size + 1 := Heap.size_push ..
  have c3 : Ar.in1.in1.handled = none := by simp [calm]
  have far : lst ≠ (st.heap.push (bare wo)).objs.size := by rw [sz]; exact Nat.ne_of_lt (Nat.lt_succ_of_lt below)
  have out : st.heap.objs.size ∉ [(st.heap.push (bare wo)).objs.size, lst] := by
    intro z
    rcases List.mem_cons.mp z with z | z
    · rw [sz] at z; exact absurd z (Nat.ne_of_lt (Nat.lt_succ_self _))
    · exact absurd (List.mem_singleton.mp z) (Nat.ne_of_gt below)
  refine set_update_ints ((Walks.list c3 _ lst far arr).toS) st.heap.objs.size out ks len few (fun i v hv => ?_) (arr.size - 0) 0 _ (by omega) (Nat.zero_le _) ?_ ?_ ?_
  · have hi : i < ks.length := by rw [← len]; exact (Array.getElem?_eq_some_iff.mp hv).1
    obtain ⟨t, e⟩ := PyProof.Rows.IntsAre.int_at hin i v (by rw [Array.getElem?_toList]; exact hv)
    refine ⟨ks[i], t, List.getElem?_eq_getElem hi, ?_⟩
    rw [e, List.getD_eq_getElem?_getD, List.getElem?_eq_getElem hi] <;> rfl
  · exact ⟨⟨_, Heap.get?_push_size _ rfl, rfl, rfl⟩, il.push _⟩
  · exact ⟨0, Nat.le_refl 0, setR_new_at (Heap.get?_push_of_some _ (get_bare _))⟩
  · rintro ⟨g, q1, q2, q3, q4⟩ c mv hc hs
    have b1 : q1 = st.gens := mv.gens
    have b2 : q2 = st.drawn := mv.drawn
    have b3 : q4 = st.os := mv.os
    subst b1 b2 b3
    refine wpAny_pure ?_
    refine wpAny_pure ?_
    rw [len] at hc
    refine fin g q3 c hs hc fun b o e => ?_
    have hb : b < st.heap.objs.size := Heap.lt_size e
    refine mv.heap b o (fun z => ?_) (Heap.get?_push_of_some _ (Heap.get?_push_of_some _ e))
    rcases List.mem_cons.mp z with z | z
    · exact absurd z (Nat.ne_of_lt hb)
    · have z := List.mem_singleton.mp z
      rw [sz] at z
      exact absurd z (Nat.ne_of_lt (Nat.lt_succ_of_lt hb))
end
end Vs
namespace Vs
open PySem PySem.Spec PyProof.Rows L2
section
variable {prog : Program} {wo : World} {Ar : Around} {Er : Value → Shared → Prop} {st : Shared}
/-- set(xs): a new set of the numbers of a list -/
theorem make_list {lst : Addr} {arr : Array Value} {ks : List Int} {Q : Value → Shared → Prop} (calm : Ar.handled = none) (isl : st.heap.IsList lst arr) (hin : IntsAre arr.toList ks) (few : ks.length + 1 < scanBound)
    (fin : ∀ (g : Heap) (tk c : Nat), SetR wo g st.heap.objs.size (fun j => decide (j ∈ ks)) c → c ≤ ks.length → (∀ b o, st.heap.get? b = some o → g.get? b = some o) → Q (.ref st.heap.objs.size) { st with heap := g, toks := tk }) :
    wpAny (model prog wo) Ar (call (.type "set") [.ref lst]) Q Er st := by
  obtain ⟨cc, tl, hmro⟩ := F.called_set.mro
  have m1 := F.called_set.made
  have m2 := F.called_set.sub
  have m3 := F.called_set.notType
  have m4 := F.called_set.canCreate
  have m5 := F.typeCall_set_1 (.ref lst)
  refine wpAny_call (codeAny_of_tree ?_)
  show wpAny _ _ (callAny (.type "set") _) _ _ _
  refine wpAny_pure ⟨Code.quiet_builtin _ (by decide +kernel), codeAny_builtin F.entry_type_call ?_⟩
  rw [Around.under_plain (weight_type_call_type "set" [.ref lst] []) rfl]
  repeat (any_goals (first | assumption | wp_step))
  refine codeAny_mono (code_set_led1 (.ref lst) (E := Er) (Q₁ := fun obj z => obj = .ref st.heap.objs.size ∧ z = { st with heap := st.heap.push (bare wo) }) ⟨rfl, rfl⟩) fun r z hr => ?_
  match r, hr with
  | .error e, hr => exact hr
  | .ok (.ret obj), hr =>
    obtain ⟨rfl, rfl⟩ := hr
    have m6 := F.called_set.init.lookup
    have m7 := F.called_set.init.bind (.ref st.heap.objs.size)
    have typ : Shared.TypeIs { st with heap := st.heap.push (bare wo) } (.ref st.heap.objs.size) "set" := ⟨_, get_bare _, rfl⟩
    repeat (any_goals (first | assumption | wp_step))
    refine codeAny_mono (init_list (R := wants (fun r z => r = .none ∧ ∃ g tk c, z = { st with heap := g, toks := tk } ∧ SetR wo g st.heap.objs.size (fun j => decide (j ∈ ks)) c ∧ c ≤ ks.length ∧ ∀ b o, st.heap.get? b = some o → g.get? b = some o) Er)
      (by simp [calm]) isl hin few fun g tk c a b k => ⟨rfl, g, tk, c, rfl, a, b, k⟩) fun r z hr => ?_
    match r, hr with
    | .error e, hr => exact hr
    | .ok (.ret v), hr =>
      obtain ⟨rfl, g, tk, c, rfl, a, b, k⟩ := hr
      repeat (any_goals (first | assumption | wp_step))
      exact fin _ _ _ a b k
end
section
variable {X : Cx}
/-- set(xs) -/
def rSetI (w : World) : List V → Hp → VK → Prop := fun xs H Q => ∃ (l : Addr) (ks : List Int), xs = [V.ref l] ∧ (∃ K, SqL K H l (ks.map V.int)) ∧ ks.length ≤ 50 ∧
  ∀ (p : Addr) (n : Nat), n ≤ ks.length → H p = none → Q (.ref p) (upd H p (SetO w p (fun j => decide (j ∈ ks)) n))
end
end Vs
namespace Vx
open PySem PySem.Spec PyProof.Rows L2
section
variable {X : Cx}
def rSetI (K : PySem.W.Frag) (w : World) : List V → Hp → VK → Prop := fun xs H Q => ∃ (l : Addr) (ks : List Int), xs = [V.ref l] ∧ SqL K H l (ks.map V.int) ∧ ks.length ≤ 50 ∧
  ∀ (p : Addr) (n : Nat), n ≤ ks.length → H p = none → Q (.ref p) (upd H p (SetO w p (fun j => decide (j ∈ ks)) n))
theorem cr_setI {K : PySem.W.Frag} {w : World} (hc : X.calm = true) (hK : X.K = K := by rfl) (hw : X.w = w := by rfl) : CallR X (.type "set") (rSetI K w) := by
  subst hK hw
  intro pins s σ H xs us Q I r h
  obtain ⟨l, ks, rfl, hl, hf, q⟩ := h
  rw [Vals.ref1 r]
  obtain ⟨its, rv, pl, hz⟩ := I.list hl
  have hb : scanBound = 4096 := rfl
  refine Vs.make_list (I.ok.hd hc) pl.isList (by simpa using ints_of_vals rv) (by omega) fun g tk c R hcn k => ?_
  exact ⟨.ref _, upd H _ (SetO X.w _ (fun j => decide (j ∈ ks)) c), I.laid (t' := tk) k (Nat.le_refl _) (setO_new R), rfl, q _ c hcn (I.hok.fresh (Nat.le_refl _))⟩
def rSortSet (w : World) : List V → Hp → VK → Prop := fun vs H Q => ∃ (a : Addr) (ks : List Int) (n : Nat), vs = [V.ref a] ∧ H a = some (SetO w a (fun j => decide (j ∈ ks)) n) ∧ n ≤ 50 ∧
  ∀ (ns : List Int) (p : Addr), ns.Pairwise (· < ·) → (∀ k : Int, k ∈ ns ↔ k ∈ ks) → H p = none → Q (.ref p) (upd H p (.lst (ns.map V.int)))
theorem cr_sortSet {w : World} (hc : X.calm = true) (hw : X.w = w := by rfl) : CallR X (.builtin "sorted") (rSortSet w) := by
  subst hw
  intro pins s σ H vs us Q I r h
  obtain ⟨a, ks, n, rfl, ha, h64, q⟩ := h
  exact cr_sortedSet hc pins s σ H _ us Q I r ⟨a, _, n, rfl, ha, by omega, fun ns p pw hm hl hn => q ns p pw (fun k => (hm k).trans decide_eq_true_iff) hn⟩
end
/-! ### numbers in order, each once -/
def insS (x : Int) : List Int → List Int
  | [] => [x]
  | y :: r => if x < y then x :: y :: r else if x = y then y :: r else y :: insS x r
def sortSet (xs : List Int) : List Int := xs.foldr insS []
theorem insS_mem {x k : Int} : ∀ {l : List Int}, k ∈ insS x l ↔ k = x ∨ k ∈ l
  | [] => by simp [insS]
  | y :: r => by
    unfold insS
    split
    · simp
    · split
      · next h => subst h; simp
      · rw [List.mem_cons, insS_mem (l := r), List.mem_cons]
        constructor <;> (intro h; rcases h with h | h | h <;> simp [h])
theorem insS_pw {x : Int} : ∀ {l : List Int}, l.Pairwise (· < ·) → (insS x l).Pairwise (· < ·)
  | [], _ => by simp [insS]
  | y :: r, h => by
    have hy := List.pairwise_cons.mp h
    unfold insS
    split
    · next c =>
      refine List.pairwise_cons.mpr ⟨fun z hz => ?_, h⟩
      rcases List.mem_cons.mp hz with rfl | hz
      · exact c
      · exact Int.lt_trans c (hy.1 z hz)
    · next c =>
      split
      · exact h
      · refine List.pairwise_cons.mpr ⟨fun z hz => ?_, insS_pw hy.2⟩
        rcases insS_mem.mp hz with rfl | hz
        · omega
        · exact hy.1 z hz
theorem sortSet_mem {k : Int} : ∀ {l : List Int}, k ∈ sortSet l ↔ k ∈ l
  | [] => Iff.rfl
  | y :: r => by
    show k ∈ insS y (sortSet r) ↔ _
    rw [insS_mem, sortSet_mem (l := r), List.mem_cons]
theorem sortSet_pw : ∀ l : List Int, (sortSet l).Pairwise (· < ·)
  | [] => List.Pairwise.nil
  | y :: r => insS_pw (sortSet_pw r)
theorem pw_uniq : ∀ {a b : List Int}, a.Pairwise (· < ·) → b.Pairwise (· < ·) → (∀ k : Int, k ∈ a ↔ k ∈ b) → a = b
  | [], [], _, _, _ => rfl
  | [], y :: r, _, _, h => absurd ((h y).mpr List.mem_cons_self) (by simp)
  | x :: r, [], _, _, h => absurd ((h x).mp List.mem_cons_self) (by simp)
  | x :: r, y :: t, p, q, h => by
    have p := List.pairwise_cons.mp p
    have q := List.pairwise_cons.mp q
    have e : x = y := by
      rcases List.mem_cons.mp ((h x).mp List.mem_cons_self) with e | e
      · exact e
      · rcases List.mem_cons.mp ((h y).mpr List.mem_cons_self) with e2 | e2
        · exact e2.symm
        · have := q.1 x e
          have := p.1 y e2
          omega
    subst e
    rw [pw_uniq p.2 q.2 fun k => ?_]
    have hk := h k
    rw [List.mem_cons, List.mem_cons] at hk
    constructor
    · intro z
      rcases hk.mp (.inr z) with e | e
      · have := p.1 k z; omega
      · exact e
    · intro z
      rcases hk.mpr (.inr z) with e | e
      · have := q.1 k z; omega
      · exact e
theorem sortSet_of {ks ns : List Int} (p : ns.Pairwise (· < ·)) (h : ∀ k : Int, k ∈ ns ↔ k ∈ ks) : ns = sortSet ks := pw_uniq p (sortSet_pw ks) fun k => (h k).trans sortSet_mem.symm
theorem gen_new2 {H H' : Hp} {p q : Addr} {o u : HO} (n : H p = none) (m : upd H p o q = none) (h : upd (upd H p o) q u = H') : Same H H' ∧ H' q = some u ∧ H q = none := by
  have hne : q ≠ p := fun z => by rw [z, upd_same] at m; cases m
  have hq : H q = none := by rwa [upd_ne hne] at m
  subst h
  refine ⟨fun b x e => ?_, upd_same, hq⟩
  rw [upd_ne (fun z => by rw [z, hq] at e; cases e), upd_ne (fun z => by rw [z, n] at e; cases e)]
  exact e
/-! ### texts in tuples and lists -/
theorem map_getF {α : Type} {f : α → V} {xs : List α} {i : Nat} {x : V} (h : (xs.map f)[i]? = some x) : ∃ o, xs[i]? = some o ∧ x = f o := by
  rw [List.getElem?_map] at h
  cases e : xs[i]? with
  | none => rw [e] at h; cases h
  | some o => rw [e] at h; exact ⟨o, rfl, (Option.some.inj h).symm⟩
theorem inV_strs (x : Str) : ∀ xs : List Str, inV (V.str x) (xs.map V.str) = decide (x ∈ xs)
  | [] => by simp [inV]
  | y :: r => by
    have h := inV_strs x r
    unfold inV at h ⊢
    rw [List.map_cons, List.any_cons, h]
    by_cases c : x = y
    · subst c
      simp [eqV]
    · simp [eqV, c, Ne.symm c]
theorem flat_strs : ∀ xs : List Str, (xs.map V.str).all flatV = true
  | [] => rfl
  | _ :: r => flat_strs r
section
variable {X : Cx} {K : PySem.W.Frag}
def rInS (K : PySem.W.Frag) : R2 := fun x y H Q => ∃ (i : Str) (p : Addr) (xs : List Str), x = .str i ∧ y = .ref p ∧ (SqL K H p (xs.map V.str) ∨ SqT K H p (xs.map V.str)) ∧ Q (.bl (decide (i ∈ xs))) H
theorem op_inS (hK : X.K = K := by rfl) : OpR X (compareOp .In) (rInS K) := by
  subst hK
  intro pins s σ H x y v u Q I rx ry h
  obtain ⟨i, p, xs, e1, e2, hs, q⟩ := h
  refine op_in_seq pins s σ H _ _ v u Q I rx ry ⟨p, _, e2, hs, by rw [e1]; rfl, flat_strs xs, ?_⟩
  rw [if_neg Bool.false_ne_true, e1, inV_strs]
  exact q
/-- a list or a tuple of numbers -/
def SeqI (K : PySem.W.Frag) (H : Hp) (v : V) (xs : List Int) : Prop := ∃ a, v = .ref a ∧ (H a = some (.lst (xs.map V.int)) ∨ H a = some (.tup (xs.map V.int)) ∨ ∀ H, SqT K H a (xs.map V.int))
def rListSI (K : PySem.W.Frag) : List V → Hp → VK → Prop := fun xs H Q => ∃ (v : V) (ks : List Int), xs = [v] ∧ SeqI K H v ks ∧ ∀ l, H l = none → Q (.ref l) (upd H l (.lst (ks.map V.int)))
theorem call_listSI (hK : X.K = K := by rfl) : CallR X (.type "list") (rListSI K) := by
  subst hK
  intro pins s σ H xs us Q I r h
  obtain ⟨v, ks, rfl, ⟨a, rfl, h2⟩, q⟩ := h
  refine call_list_of pins s σ H _ us Q I r ⟨a, _, rfl, ?_, q⟩
  rcases h2 with z | z | z
  · exact .inl (SqL.of z)
  · exact .inr (SqT.of z)
  · exact .inr (z H)
theorem SeqI.mono {H H' : Hp} {v : V} {xs : List Int} (e : Same H H') (h : SeqI K H v xs) : SeqI K H' v xs := by
  obtain ⟨a, e1, h⟩ := h
  refine ⟨a, e1, ?_⟩
  rcases h with z | z | z
  · exact .inl (e _ _ z)
  · exact .inr (.inl (e _ _ z))
  · exact .inr (.inr z)
def rTupLK (K : PySem.W.Frag) : List V → Hp → VK → Prop := fun xs H Q => ∃ (p : Addr) (ks : List Int), xs = [.ref p] ∧ SqL K H p (ks.map V.int) ∧ ∀ l, H l = none → Q (.ref l) (upd H l (.tup (ks.map V.int)))
theorem call_tupLK (hK : X.K = K := by rfl) : CallR X (.type "tuple") (rTupLK K) := by
  subst hK
  intro pins s σ H xs us Q I r h
  obtain ⟨p, ks, rfl, hs, q⟩ := h
  exact call_tuple_of pins s σ H _ us Q I r ⟨p, _, rfl, .inl ⟨hs, q⟩⟩
end
/-! ### written dicts of tuples with text keys -/
def lookG {α : Type} : List (Str × α) → Str → Option α
  | [], _ => none
  | (k, v) :: r, i => if k = i then some v else lookG r i
def dictG {α : Type} [Inhabited α] (kvs : List (Str × α)) (i : Str) : α := (lookG kvs i).getD default
def hasG {α : Type} (kvs : List (Str × α)) (i : Str) : Bool := (lookG kvs i).isSome
theorem lookG_at {α : Type} [Inhabited α] {kvs : List (Str × α)} {i : Str} (h : hasG kvs i = true) : lookG kvs i = some (dictG kvs i) := by
  unfold hasG at h
  unfold dictG
  cases e : lookG kvs i with
  | none => rw [e] at h; cases h
  | some v => rfl
inductive EA (P : Params) : List (Str × Addr) → List DictEntry → Prop
  | nil : EA P [] []
  | cons {h k a} {t : Tok} {r : List (Str × Addr)} {es : List DictEntry} (e : h = PyData.keyHash P k) (x : EA P r es) : EA P ((k, a) :: r) (⟨h, .str k t, .ref a⟩ :: es)
def KDA (K : PySem.W.Frag) (w : World) (a : Addr) (kvs : List (Str × Addr)) : Prop :=
  ∃ es n, K.lookup a = some ⟨.type "dict", none, .dict es n, #[]⟩ ∧ EA w.params kvs es.toList
theorem EA.lit {P : Params} : ∀ {kvs : List (Str × Addr)} {es : List DictEntry}, EA P kvs es → PySem.W.KeysLit P es
  | _, _, .nil => trivial
  | _, _, .cons e x => ⟨⟨_, _, rfl, e⟩, EA.lit x⟩
theorem EA.find {P : Params} {i : Str} {a : Addr} : ∀ {kvs : List (Str × Addr)} {es : List DictEntry}, EA P kvs es → lookG kvs i = some a → ∃ e, es.find? (fun e => e.key.isStr i) = some e ∧ e.val = .ref a
  | _, _, .nil, h => by cases h
  | _, _, .cons (k := k) e x, h => by
    unfold lookG at h
    by_cases q : k = i
    · rw [if_pos q] at h
      subst q
      cases h
      refine ⟨_, List.find?_cons_of_pos ?_, rfl⟩
      simp [Value.isStr]
    · rw [if_neg q] at h
      obtain ⟨e', h1, h2⟩ := EA.find x h
      refine ⟨e', ?_, h2⟩
      rw [List.find?_cons_of_neg]
      · exact h1
      · simp [Value.isStr, q]
def rIxDA (K : PySem.W.Frag) (w : World) : R2 := fun x y H Q => ∃ (p : Addr) (z : Str) (kvs : List (Str × Addr)) (a : Addr), x = .ref p ∧ y = .str z ∧ KDA K w p kvs ∧ lookG kvs z = some a ∧ Q (.ref a) H
theorem ix_DA {X : Cx} {K : PySem.W.Frag} {w : World} (hK : X.K = K := by rfl) (hw : X.w = w := by rfl) : IxR X (rIxDA K w) := by
  subst hK hw
  intro value slice pins s σ H x y v u Q I rx ry h hs
  obtain ⟨p, z, kvs, a, e1, e2, ⟨es, n, hl, xx⟩, e, q⟩ := h
  obtain ⟨en, h1, h2⟩ := xx.find e
  refine ix_kdict value slice pins s σ H x y v u Q I rx ry ⟨p, z, .ref a, e1, e2, ⟨es, n, .ref a, hl, xx.lit, ?_, rfl⟩, q⟩ hs
  unfold PySem.W.nsIn
  rw [hl]
  show (match es.toList.find? (fun e => e.key.isStr z) with
      | some e => some (some e.val)
      | none => if es.toList.any (·.refKey) then none else some none) = _
  rw [h1]
  show some (some en.val) = _
  rw [h2]
theorem F2.look {α β : Type} [Inhabited α] [Inhabited β] {P : α → β → Prop} {z : Str} : ∀ {l : List (Str × α)} {m : List (Str × β)}, F2 (fun p q => p.1 = q.1 ∧ P p.2 q.2) l m → hasG m z = true → P (dictG l z) (dictG m z)
  | _, _, .nil, h => by cases h
  | (k, a) :: l, (k2, b) :: m, .cons h r, hz => by
    obtain ⟨e, hp⟩ := h
    have e : k = k2 := e
    subst e
    unfold hasG lookG at hz
    unfold dictG lookG
    by_cases q : k = z
    · rw [if_pos q, if_pos q]; exact hp
    · rw [if_neg q] at hz
      rw [if_neg q, if_neg q]
      exact F2.look r hz
theorem F2.hasK {α β : Type} {P : α → β → Prop} {z : Str} : ∀ {l : List (Str × α)} {m : List (Str × β)}, F2 (fun p q => p.1 = q.1 ∧ P p.2 q.2) l m → hasG m z = true → hasG l z = true
  | _, _, .nil, h => by cases h
  | (k, a) :: l, (k2, b) :: m, .cons h r, hz => by
    have e : k = k2 := h.1
    subst e
    unfold hasG lookG at hz ⊢
    by_cases q : k = z
    · rw [if_pos q]; rfl
    · rw [if_neg q] at hz ⊢
      exact F2.hasK r hz
end Vx
/-! # fourth part: reckoning with functions that may refuse -/
namespace Vx
open PySem PySem.Spec PyProof.Rows L2
section
variable {α β σ ρ τ : Type}
theorem bind_ok (a : α) (f : α → Rx β) : (Rx.ok a).bind f = f a := rfl
theorem bind_er (e : Nat) (f : α → Rx β) : (Rx.er e : Rx α).bind f = .er e := rfl
theorem grd_pos {p : Prop} {dp : Decidable p} {m : Rx α} (h : p) : grd p m = m := if_pos h
theorem bnd_eq (a : α) (f : α → Rx β) : bnd a f = f a := rfl
theorem noEr_ok (a : α) : noEr (.ok a : Rx α) = .ok a := rfl
theorem tryR_ok {cs : List Nat} (a : α) (f : α → Rx β) (g : Nat → Rx β) : tryR (.ok a) cs f g = f a := rfl
theorem tryR_er {cs : List Nat} {e : Nat} (h : e ∈ cs) (f : α → Rx β) (g : Nat → Rx β) : tryR (.er e) cs f g = g e := if_pos h
theorem aft_go (s : σ) (kr : ρ → Rx τ) (k : σ → Rx τ) : (Lp.go s : Lp σ ρ).aft kr k = k s := rfl
theorem aft_rt (r : ρ) (kr : ρ → Rx τ) (k : σ → Rx τ) : (Lp.rt r : Lp σ ρ).aft kr k = kr r := rfl
/-- gives a value of which P holds -/
def Gv (m : Rx α) (P : α → Prop) : Prop := ∃ v, m = .ok v ∧ P v
theorem Gv.ok {a : α} {P : α → Prop} (h : P a) : Gv (.ok a) P := ⟨a, rfl, h⟩
theorem Gv.of_eq {m : Rx α} {a : α} {P : α → Prop} (e : m = .ok a) (h : P a) : Gv m P := ⟨a, e, h⟩
theorem Gv.bind {m : Rx α} {f : α → Rx β} {P : α → Prop} {Q : β → Prop} (h : Gv m P) (k : ∀ v, P v → Gv (f v) Q) : Gv (m.bind f) Q := by
  obtain ⟨v, rfl, p⟩ := h
  exact k v p
theorem Gv.bind_eq {m : Rx α} {f : α → Rx β} {a : α} {Q : β → Prop} (h : m = .ok a) (k : Gv (f a) Q) : Gv (m.bind f) Q := by
  subst h
  exact k
theorem Gv.grd {p : Prop} {dp : Decidable p} {m : Rx α} {Q : α → Prop} (h : p) (k : Gv m Q) : Gv (Vx.grd p m) Q := by
  rw [grd_pos h]
  exact k
theorem Gv.bnd {a : α} {f : α → Rx β} {Q : β → Prop} (k : ∀ x, x = a → Gv (f x) Q) : Gv (Vx.bnd a f) Q := k a rfl
theorem Gv.ite {p : Prop} {dp : Decidable p} {a b : Rx α} {Q : α → Prop} (h1 : p → Gv a Q) (h2 : ¬ p → Gv b Q) : Gv (if p then a else b) Q := by
  split
  · exact h1 ‹_›
  · exact h2 ‹_›
theorem Gv.pos {p : Prop} {dp : Decidable p} {a b : Rx α} {Q : α → Prop} (h : p) (k : Gv a Q) : Gv (if p then a else b) Q := by rwa [if_pos h]
theorem Gv.neg {p : Prop} {dp : Decidable p} {a b : Rx α} {Q : α → Prop} (h : ¬ p) (k : Gv b Q) : Gv (if p then a else b) Q := by rwa [if_neg h]
theorem Gv.imp {m : Rx α} {P Q : α → Prop} (h : Gv m P) (k : ∀ v, P v → Q v) : Gv m Q := by
  obtain ⟨v, e, p⟩ := h
  exact ⟨v, e, k v p⟩
theorem Gv.noEr {m : Rx α} {P : α → Prop} (h : Gv m P) : Gv (Vx.noEr m) P := by
  obtain ⟨v, rfl, p⟩ := h
  exact ⟨v, rfl, p⟩
theorem Gv.tryOk {m : Rx α} {cs : List Nat} {f : α → Rx β} {g : Nat → Rx β} {P : α → Prop} {Q : β → Prop} (h : Gv m P) (k : ∀ v, P v → Gv (f v) Q) : Gv (tryR m cs f g) Q := by
  obtain ⟨v, rfl, p⟩ := h
  exact k v p
theorem Gv.tryEr {m : Rx α} {cs : List Nat} {e : Nat} {f : α → Rx β} {g : Nat → Rx β} {Q : β → Prop} (h : m = .er e) (hm : e ∈ cs) (k : Gv (g e) Q) : Gv (tryR m cs f g) Q := by
  subst h
  rw [tryR_er hm]
  exact k
theorem Gv.get {m : Rx α} {a : α} (h : Gv m (fun v => v = a)) : m = .ok a := by
  obtain ⟨v, e, rfl⟩ := h
  exact e
theorem Gv.eq {m : Rx α} {P : α → Prop} (h : Gv m P) : ∃ v, m = .ok v ∧ P v := h
/-- a loop that keeps P -/
theorem Gv.forS {P : Nat → σ → Prop} {xs : List α} {s : σ} {f : σ → α → Rx σ} (h0 : P 0 s) (hs : ∀ i x s, xs[i]? = some x → P i s → Gv (f s x) (P (i + 1))) : Gv (Vx.forS xs s f) (P xs.length) := by
  induction xs generalizing s P with
  | nil => exact .ok h0
  | cons x r ih =>
    refine Gv.bind (hs 0 x s rfl h0) fun s' p => ?_
    exact ih (P := fun i => P (i + 1)) p fun i y s hy q => hs (i + 1) y s (by simpa using hy) q
theorem Gv.forR {P : Nat → σ → Prop} {xs : List α} {s : σ} {f : σ → α → Rx (Lp σ ρ)} (h0 : P 0 s) (hs : ∀ i x s, xs[i]? = some x → P i s → Gv (f s x) (fun l => ∃ s', l = .go s' ∧ P (i + 1) s')) : Gv (Vx.forR xs s f) (fun l => ∃ s', l = .go s' ∧ P xs.length s') := by
  induction xs generalizing s P with
  | nil => exact .ok ⟨s, rfl, h0⟩
  | cons x r ih =>
    refine Gv.bind (hs 0 x s rfl h0) ?_
    rintro _ ⟨s', rfl, p⟩
    exact ih (P := fun i => P (i + 1)) p fun i y s hy q => hs (i + 1) y s (by simpa using hy) q
/-- a loop that carries nothing -/
theorem forR_unit {xs : List α} {f : Unit → α → Rx (Lp Unit ρ)} (h : ∀ x ∈ xs, f () x = .ok (.go ())) : Vx.forR xs () f = .ok (.go ()) := by
  induction xs with
  | nil => rfl
  | cons x r ih =>
    show (f () x).bind _ = _
    rw [h x List.mem_cons_self]
    exact ih fun y hy => h y (List.mem_cons_of_mem _ hy)
theorem forS_pure {xs : List α} {s : σ} {f : σ → α → Rx σ} {g : σ → α → σ} (h : ∀ s x, x ∈ xs → f s x = .ok (g s x)) : Vx.forS xs s f = .ok (xs.foldl g s) := by
  induction xs generalizing s with
  | nil => rfl
  | cons x r ih =>
    show (f s x).bind _ = _
    rw [h s x List.mem_cons_self]
    exact ih fun s y hy => h s y (List.mem_cons_of_mem _ hy)
theorem mapA_pure {xs : List α} {acc : List β} {f : α → Rx β} {g : α → β} (h : ∀ x ∈ xs, f x = .ok (g x)) (hl : acc.length + xs.length ≤ 1000000) : mapA xs acc f = .ok (acc ++ xs.map g) := by
  induction xs generalizing acc with
  | nil => simp [mapA]
  | cons x r ih =>
    rw [List.length_cons] at hl
    unfold mapA
    rw [grd_pos (by omega), h x List.mem_cons_self, bind_ok, ih (fun y hy => h y (List.mem_cons_of_mem _ hy)) (by rw [List.length_append, List.length_cons, List.length_nil]; omega)]
    simp
theorem mapA_pure0 {xs : List α} {f : α → Rx β} {g : α → β} (h : ∀ x ∈ xs, f x = .ok (g x)) (hl : xs.length ≤ 1000000) : mapA xs [] f = .ok (xs.map g) := by
  rw [mapA_pure h (by simpa using hl)]
  rfl
theorem mapF_pure {xs : List α} {acc : List β} {f : α → Rx (Option β)} {g : α → Option β} (h : ∀ x ∈ xs, f x = .ok (g x)) (hl : acc.length + xs.length ≤ 1000000) : mapF xs acc f = .ok (acc ++ xs.filterMap g) := by
  induction xs generalizing acc with
  | nil => simp [mapF]
  | cons x r ih =>
    rw [List.length_cons] at hl
    unfold mapF
    rw [grd_pos (by omega), h x List.mem_cons_self, bind_ok]
    cases e : g x with
    | none =>
      show mapF r acc f = _
      rw [ih (fun y hy => h y (List.mem_cons_of_mem _ hy)) (by omega), List.filterMap_cons, e]
    | some z =>
      show mapF r (acc ++ [z]) f = _
      rw [ih (fun y hy => h y (List.mem_cons_of_mem _ hy)) (by rw [List.length_append, List.length_cons, List.length_nil]; omega), List.filterMap_cons, e]
      simp
/-- a while that ends: m falls -/
theorem Gv.whileR {P : σ → Prop} {R : σ → Prop} (m : σ → Nat) {f : σ → Rx (Lp σ ρ)} (hs : ∀ s, P s → Gv (f s) (fun l => (∃ s', l = .go s' ∧ P s' ∧ m s' < m s) ∨ ∃ s', l = .bk s' ∧ R s')) : ∀ {n : Nat} {s : σ}, P s → m s < n → Gv (Vx.whileR n s f) (fun l => ∃ s', l = .go s' ∧ R s') := by
  intro n
  induction n with
  | zero => intro s _ h; exact absurd h (Nat.not_lt_zero _)
  | succ n ih =>
    intro s p h
    refine Gv.bind (hs s p) ?_
    rintro _ (⟨s', rfl, p', l⟩ | ⟨s', rfl, r⟩)
    · exact ih p' (by omega)
    · exact .ok ⟨s', rfl, r⟩
end
/-- a loop that may return -/
theorem Gv.forRR {α σ ρ : Type} {P : Nat → σ → Prop} {Q : ρ → Prop} {xs : List α} {s : σ} {f : σ → α → Rx (Lp σ ρ)} (h0 : P 0 s) (hs : ∀ i x s, xs[i]? = some x → P i s → Gv (f s x) (fun l => (∃ s', l = .go s' ∧ P (i + 1) s') ∨ ∃ r, l = .rt r ∧ Q r)) : Gv (Vx.forR xs s f) (fun l => (∃ s', l = .go s' ∧ P xs.length s') ∨ ∃ r, l = .rt r ∧ Q r) := by
  induction xs generalizing s P with
  | nil => exact .ok (.inl ⟨s, rfl, h0⟩)
  | cons x r ih =>
    refine Gv.bind (hs 0 x s rfl h0) ?_
    rintro _ (⟨s', rfl, p⟩ | ⟨r, rfl, q⟩)
    · exact ih (P := fun i => P (i + 1)) p fun i y s hy q => hs (i + 1) y s (by simpa using hy) q
    · exact .ok (.inr ⟨r, rfl, q⟩)
theorem rng_mem {lo x : Int} {n : Nat} (h : x ∈ rng lo n) : lo ≤ x ∧ x < lo + n := by
  unfold rng at h
  obtain ⟨j, hj, rfl⟩ := List.mem_map.mp h
  have := List.mem_range.mp hj
  omega
theorem rng_at {lo x : Int} {n i : Nat} (h : (rng lo n)[i]? = some x) : x = lo + i ∧ i < n := by
  have hl := get_len h
  rw [rng_len] at hl
  rw [rng_get hl] at h
  exact ⟨(Option.some.inj h).symm, hl⟩
end Vx
namespace Vx
open PySem PySem.Spec PyProof.Rows L2
structure St_Format where
  width : Int
  height : Int
  depth : Int
  chroma : Int
deriving DecidableEq
structure St_Settings where
  fmt : St_Format
  slots : Int
  rows : Int
  deblock : Bool
  offset : Bool
  layers : Int
deriving DecidableEq
structure St_PictureHeader where
  number : Int
  kind : Str
  level : Int
  store : (List Int)
  refs : (List Int)
  weight : Int
  layer : Int
  shown : Bool
  edge : Int
deriving DecidableEq
def F__law_draws_b1 (free_15 : Bool) (found_33 : (List Int)) (rest_34 : Int) (state_35 : Int) (it38 : Int) : Rx ((List Int) × Int × Int) :=
  (if free_15 = true then (if 1 < rest_34 then grd (0 < (it38 : Int)) <| grd ((found_33).length ≤ 1000000) <| bnd ((found_33) ++ [(rest_34 % it38)]) fun y49 => grd (0 < (it38 : Int) ∧ (it38 : Int) < 2 ^ 128) <| bnd ((rest_34 / it38)) fun rest_51 => .ok ((y49), (rest_51), (state_35)) else bnd ((((state_35 * 48271) + 11) % 2147483647)) fun state_52 => bnd ((((state_52 * 69621) + 7) % 2147483647)) fun state_53 => grd (0 < (it38 : Int)) <| grd ((found_33).length ≤ 1000000) <| bnd ((found_33) ++ [((state_53 / 13) % it38)]) fun y62 => .ok ((y62), (rest_34), (state_53))) else bnd ((((state_35 * 48271) + 11) % 2147483647)) fun state_63 => bnd ((((state_63 * 69621) + 7) % 2147483647)) fun state_64 => grd (0 < (it38 : Int)) <| grd ((found_33).length ≤ 1000000) <| bnd ((found_33) ++ [((state_64 / 13) % it38)]) fun y73 => .ok ((y73), (rest_34), (state_64)))

def F__law_draws_r1 (found_79 : (List Int)) (rest_80 : Int) (state_81 : Int) : Rx (List Int) :=
  .ok (found_79)

def F__law_draws (cell' : Int) (limits' : (List Int)) : Rx (List Int) :=
  bnd ((if cell' < 0 then -cell' else cell')) fun rest_10 => bnd ((rest_10 % 2147483647)) fun state_11 => bnd ((decide (cell' < 0) || decide (((10 : Int) ^ Int.toNat 18) ≤ cell'))) fun free_14 => Rx.bind (forS (limits') ((([] : (List Int))), (rest_10), (state_11)) (fun s x => F__law_draws_b1 (free_14) (s.1) (s.2.1) (s.2.2) x)) fun s => F__law_draws_r1  (s.1) (s.2.1) (s.2.2)

def F__law_between (first' : Int) (second' : Int) (low' : Int) (high' : Int) : Rx Int :=
  (if (first' : Int) = 0 then .ok (low') else (if (first' : Int) = 1 then .ok (high') else (if (first' : Int) = 2 then .ok ((if high' < (low' + 1) then high' else (low' + 1))) else grd (0 < (((high' - low') + 1) : Int)) <| .ok ((low' + (second' % ((high' - low') + 1)))))))

def F__law_inter_k1 (n_134 : (List Int)) (kind_135 : Int) (refs_136 : Int) (weight_137 : Int) : Rx ((List Int) × Int × Int × Int) :=
  .ok ((n_134, kind_135, refs_136, weight_137))

def F__law_inter (cell' : Int) : Rx ((List Int) × Int × Int × Int) :=
  Rx.bind (F__law_draws cell' ([16, 16, 5, 3, 2, 2, 6, 17])) fun v95 => grd (-((v95 : (List Int)).length : Int) ≤ 0 ∧ 0 < ((v95 : (List Int)).length : Int)) <| grd (-((v95 : (List Int)).length : Int) ≤ 1 ∧ 1 < ((v95 : (List Int)).length : Int)) <| grd (-((v95 : (List Int)).length : Int) ≤ 2 ∧ 2 < ((v95 : (List Int)).length : Int)) <| grd (-((v95 : (List Int)).length : Int) ≤ 3 ∧ 3 < ((v95 : (List Int)).length : Int)) <| grd (-((v95 : (List Int)).length : Int) ≤ 4 ∧ 4 < ((v95 : (List Int)).length : Int)) <| bnd ((1 + (itD (v95) (4)))) fun kind_119 => grd (-((v95 : (List Int)).length : Int) ≤ 5 ∧ 5 < ((v95 : (List Int)).length : Int)) <| grd (-((v95 : (List Int)).length : Int) ≤ 4 ∧ 4 < ((v95 : (List Int)).length : Int)) <| grd (-(([(1 + (itD (v95) (5))), 2] : (List Int)).length : Int) ≤ (itD (v95) (4)) ∧ (itD (v95) (4)) < (([(1 + (itD (v95) (5))), 2] : (List Int)).length : Int)) <| bnd ((itD ([(1 + (itD (v95) (5))), 2]) ((itD (v95) (4))))) fun refs_133 => Rx.bind (((if (kind_119 : Int) = 2 then grd (-((v95 : (List Int)).length : Int) ≤ 6 ∧ 6 < ((v95 : (List Int)).length : Int)) <| grd (-((v95 : (List Int)).length : Int) ≤ 7 ∧ 7 < ((v95 : (List Int)).length : Int)) <| Rx.bind (F__law_between ((itD (v95) (6))) ((itD (v95) (7))) 0 16) fun v144 => .ok (v144) else .ok (8)) : Rx (Int))) fun s => F__law_inter_k1 ([(1 + (itD (v95) (0))), (1 + (itD (v95) (1))), (8 + (itD (v95) (2))), (itD (v95) (3))]) (kind_119) (refs_133) s

def F__require (holds' : Bool) (text' : Str) : Rx Unit :=
  (if holds' = true then .ok (()) else .er 3)

def F_Settings___init__ (fmt' : St_Format) (slots' : Int) (rows' : Int) (deblock' : Bool) (offset' : Bool) (layers' : Int) : Rx St_Settings :=
  Rx.bind (F__require ((decide (1 ≤ slots') && decide (slots' ≤ 4))) (("there are 1 to 4 slots" : Str))) fun v174 => Rx.bind (F__require ((decide (1 ≤ rows') && decide (rows' ≤ 32))) (("a slice has 1 to 32 rows of blocks" : Str))) fun v178 => Rx.bind (F__require ((decide (1 ≤ layers') && decide (layers' ≤ 4))) (("there are 1 to 4 layers" : Str))) fun v182 => .ok (⟨fmt', slots', rows', deblock', offset', layers'⟩ : St_Settings)

def F__check_numbers_k7 (settings_283 : St_Settings) (header_284 : St_PictureHeader) : Rx Unit :=
  (if decide ((header_284.edge : Int) = 0) = true then Rx.bind (F__require true (("there is no edge without the filter" : Str))) fun v295 => .ok (()) else Rx.bind (F__require settings_283.deblock (("there is no edge without the filter" : Str))) fun v296 => .ok (()))

def F__check_numbers_k6 (settings_272 : St_Settings) (header_273 : St_PictureHeader) : Rx Unit :=
  Rx.bind (((if (-6) ≤ header_273.edge then Rx.bind (F__require (decide (header_273.edge ≤ 6)) (("the edge is from -6 to 6" : Str))) fun v288 => .ok () else Rx.bind (F__require false (("the edge is from -6 to 6" : Str))) fun v289 => .ok ()) : Rx Unit)) fun s => F__check_numbers_k7 (settings_272) (header_273) 

def F__check_numbers_k5 (settings_261 : St_Settings) (header_262 : St_PictureHeader) : Rx Unit :=
  Rx.bind (((if 0 ≤ header_262.layer then Rx.bind (F__require (decide (header_262.layer < settings_261.layers)) (("the layer is below the number of layers" : Str))) fun v277 => .ok () else Rx.bind (F__require false (("the layer is below the number of layers" : Str))) fun v278 => .ok ()) : Rx Unit)) fun s => F__check_numbers_k6 (settings_261) (header_262) 

def F__check_numbers_k4 (settings_250 : St_Settings) (header_251 : St_PictureHeader) : Rx Unit :=
  Rx.bind (((if decide ((header_251.weight : Int) = 8) = true then Rx.bind (F__require true (("only B pictures have a weight" : Str))) fun v266 => .ok () else Rx.bind (F__require (decide (V.str (header_251.kind) = V.str (("B" : Str)))) (("only B pictures have a weight" : Str))) fun v267 => .ok ()) : Rx Unit)) fun s => F__check_numbers_k5 (settings_250) (header_251) 

def F__check_numbers_k3 (settings_239 : St_Settings) (header_240 : St_PictureHeader) : Rx Unit :=
  Rx.bind (((if 0 ≤ header_240.weight then Rx.bind (F__require (decide (header_240.weight ≤ 16)) (("the weight is from 0 to 16" : Str))) fun v255 => .ok () else Rx.bind (F__require false (("the weight is from 0 to 16" : Str))) fun v256 => .ok ()) : Rx Unit)) fun s => F__check_numbers_k4 (settings_239) (header_240) 

def F__check_numbers_k2 (settings_230 : St_Settings) (header_231 : St_PictureHeader) : Rx Unit :=
  Rx.bind (((if 0 ≤ header_231.level then Rx.bind (F__require (decide (header_231.level ≤ 31)) (("the level is from 0 to 31" : Str))) fun v244 => .ok () else Rx.bind (F__require false (("the level is from 0 to 31" : Str))) fun v245 => .ok ()) : Rx Unit)) fun s => F__check_numbers_k3 (settings_230) (header_231) 

def F__check_numbers_k1 (settings_219 : St_Settings) (header_220 : St_PictureHeader) : Rx Unit :=
  Rx.bind ((Rx.bind (F__require (decide ((header_220.kind : Str) ∈ ([("I" : Str), ("P" : Str), ("B" : Str)] : List Str))) (("the kind of a picture is I, P or B" : Str))) fun v234 => .ok () : Rx Unit)) fun s => F__check_numbers_k2 (settings_219) (header_220) 

def F__check_numbers (settings' : St_Settings) (header' : St_PictureHeader) : Rx Unit :=
  Rx.bind (((if 0 ≤ header'.number then Rx.bind (F__require (decide (header'.number ≤ 999)) (("the number of a picture is from 0 to 999" : Str))) fun v224 => .ok () else Rx.bind (F__require false (("the number of a picture is from 0 to 999" : Str))) fun v225 => .ok ()) : Rx Unit)) fun s => F__check_numbers_k1 (settings') (header') 

def F__check_slots_b1 (settings_307 : St_Settings) (it325 : Int) : Rx Unit :=
  Rx.bind (F__require ((decide (0 ≤ it325) && decide (it325 < settings_307.slots))) (("there is no such slot" : Str))) fun v329 => .ok ()

def F__check_slots_r1 (header_308 : St_PictureHeader) : Rx Unit :=
  grd ((header_308.store : List Int).length ≤ 50) <| Rx.bind (F__require (decide ((header_308.store : (List Int)) = (sortSet (header_308.store)))) (("the slots of store ascend without duplicates" : Str))) fun v353 => grd (hasG ([("I", [0]), ("P", [1, 2]), ("B", [2])] : List (Str × List Int)) (header_308.kind) = true) <| Rx.bind (F__require (decide (((((header_308.refs) : (List Int)).length : Int) : Int) ∈ ((dictG ([("I", [0]), ("P", [1, 2]), ("B", [2])] : List (Str × List Int)) (header_308.kind)) : List Int))) (("the number of refs does not belong to the kind" : Str))) fun v355 => .ok (())

def F__check_slots (settings' : St_Settings) (header' : St_PictureHeader) : Rx Unit :=
  grd ((header'.store).length + (header'.refs).length ≤ 1000000) <| Rx.bind (forS ((header'.store) ++ (header'.refs)) () (fun s x => F__check_slots_b1 (settings')  x)) fun s => F__check_slots_r1 (header') 

def F_PictureHeader___init__ (settings' : St_Settings) (number' : Int) (kind' : Str) (level' : Int) (store' : (List Int)) (refs' : (List Int)) (weight' : Int) (layer' : Int) (shown' : Bool) (edge' : Int) : Rx St_PictureHeader :=
  Rx.bind (F__check_numbers (settings') ((⟨number', kind', level', store', refs', weight', layer', shown', edge'⟩ : St_PictureHeader))) fun v432 => Rx.bind (F__check_slots (settings') ((⟨number', kind', level', store', refs', weight', layer', shown', edge'⟩ : St_PictureHeader))) fun v439 => .ok (⟨number', kind', level', store', refs', weight', layer', shown', edge'⟩ : St_PictureHeader)

def F_Format___init__ (width' : Int) (height' : Int) (depth' : Int) (chroma' : Int) : Rx St_Format :=
  (if 1 ≤ width' then (if width' ≤ 256 then (if 1 ≤ height' then (if height' ≤ 256 then (if 8 ≤ depth' then (if depth' ≤ 12 then (if 0 ≤ chroma' then (if chroma' ≤ 2 then .ok (⟨width', height', depth', chroma'⟩ : St_Format) else .er 1) else .er 1) else .er 1) else .er 1) else .er 1) else .er 1) else .er 1) else .er 1)

def F__law_header (n' : (List Int)) (kind' : Int) (refs' : Int) (weight' : Int) : Rx St_PictureHeader :=
  grd (-((n' : (List Int)).length : Int) ≤ 0 ∧ 0 < ((n' : (List Int)).length : Int)) <| grd (-((n' : (List Int)).length : Int) ≤ 1 ∧ 1 < ((n' : (List Int)).length : Int)) <| grd (-((n' : (List Int)).length : Int) ≤ 2 ∧ 2 < ((n' : (List Int)).length : Int)) <| grd (-((n' : (List Int)).length : Int) ≤ 3 ∧ 3 < ((n' : (List Int)).length : Int)) <| Rx.bind (F_Format___init__ ((itD (n') (0))) ((itD (n') (1))) ((itD (n') (2))) ((itD (n') (3)))) fun v493 => Rx.bind (F_Settings___init__ (v493) 2 1 false false 1) fun v510 => grd (-(([("I" : Str), ("P" : Str), ("B" : Str)] : (List Str)).length : Int) ≤ kind' ∧ kind' < (([("I" : Str), ("P" : Str), ("B" : Str)] : (List Str)).length : Int)) <| Rx.bind (F_PictureHeader___init__ ((⟨v493, v510.slots, v510.rows, v510.deblock, v510.offset, v510.layers⟩ : St_Settings)) 3 ((itD ([("I" : Str), ("P" : Str), ("B" : Str)]) (kind'))) 0 (([] : List Int)) (cutL ([1, 0]) none (some (refs'))) weight' 0 true 0) fun v557 => .ok (⟨v557.number, v557.kind, v557.level, v557.store, v557.refs, v557.weight, v557.layer, v557.shown, v557.edge⟩ : St_PictureHeader)

def F__law_cell (script' : (List Int)) (k' : Int) : Rx Int :=
  (if k' < (((script') : (List Int)).length : Int) then grd (-((script' : (List Int)).length : Int) ≤ k' ∧ k' < ((script' : (List Int)).length : Int)) <| .ok ((itD (script') (k'))) else .ok (0))

def F__law_coded (n' : (List Int)) (plane' : Int) : Rx (Int × Int) :=
  grd (-((n' : (List Int)).length : Int) ≤ 0 ∧ 0 < ((n' : (List Int)).length : Int)) <| bnd (((((itD (n') (0)) + 7) / 8) * 8)) fun width_574 => grd (-((n' : (List Int)).length : Int) ≤ 1 ∧ 1 < ((n' : (List Int)).length : Int)) <| bnd (((((itD (n') (1)) + 7) / 8) * 8)) fun height_576 => (if 0 < plane' then grd (-((n' : (List Int)).length : Int) ≤ 3 ∧ 3 < ((n' : (List Int)).length : Int)) <| (if ((itD (n') (3)) : Int) = 1 then .ok (((width_574 / 2), (height_576 / 2))) else .ok ((width_574, height_576))) else .ok ((width_574, height_576)))

def F__law_plane_c3 (top_695 : Int) (values_696 : (List Int)) (it727 : Int) : Rx Int :=
  grd (-((values_696 : (List Int)).length : Int) ≤ 0 ∧ 0 < ((values_696 : (List Int)).length : Int)) <| grd (0 < ((top_695 + 1) : Int)) <| .ok ((((itD (values_696) (0)) + (7 * it727)) % (top_695 + 1)))

def F__law_plane_c5 (top_764 : Int) (it808 : Int) : Rx Int :=
  grd ((-(2 ^ 64) < (top_764 : Int) ∧ (top_764 : Int) < 2 ^ 64) ∨ (-(2 ^ 64) < ((it808 % 2) : Int) ∧ ((it808 % 2) : Int) < 2 ^ 64)) <| .ok ((top_764 * (it808 % 2)))

def F__law_plane_c6 (width_837 : Int) (values_838 : (List Int)) (it869 : Int) : Rx (List Int) :=
  grd ((-(2 ^ 64) < (it869 : Int) ∧ (it869 : Int) < 2 ^ 64) ∨ (-(2 ^ 64) < (width_837 : Int) ∧ (width_837 : Int) < 2 ^ 64)) <| grd ((-(2 ^ 64) < ((it869 + 1) : Int) ∧ ((it869 + 1) : Int) < 2 ^ 64) ∨ (-(2 ^ 64) < (width_837 : Int) ∧ (width_837 : Int) < 2 ^ 64)) <| .ok (cutL (values_838) (some ((it869 * width_837))) (some (((it869 + 1) * width_837))))

def F__law_plane_k4 (width_756 : Int) (height_757 : Int) (values_758 : (List Int)) : Rx (List (List Int)) :=
  grd (-(2 ^ 62) ≤ (height_757 : Int) ∧ (height_757 : Int) < 2 ^ 62) <| Rx.bind (mapA (rng (0) (Int.toNat (height_757))) [] (fun x => noEr (F__law_plane_c6 (width_756) (values_758) x))) fun v839 => .ok (v839)

def F__law_plane_k2 (width_683 : Int) (height_684 : Int) (top_685 : Int) (kind_686 : Int) (values_687 : (List Int)) : Rx (List (List Int)) :=
  Rx.bind (((if (kind_686 : Int) = 2 then Rx.bind (mapA (values_687) [] (fun x => noEr (F__law_plane_c5 (top_685) x))) fun v765 => .ok (v765) else .ok (values_687)) : Rx ((List Int)))) fun s => F__law_plane_k4 (width_683) (height_684) s

def F__law_plane_k1 (width_646 : Int) (height_647 : Int) (top_648 : Int) (kind_649 : Int) (values_650 : (List Int)) : Rx (List (List Int)) :=
  Rx.bind (((if (kind_649 : Int) = 1 then grd ((-(2 ^ 64) < (width_646 : Int) ∧ (width_646 : Int) < 2 ^ 64) ∨ (-(2 ^ 64) < (height_647 : Int) ∧ (height_647 : Int) < 2 ^ 64)) <| grd (-(2 ^ 62) ≤ ((width_646 * height_647) : Int) ∧ ((width_646 * height_647) : Int) < 2 ^ 62) <| Rx.bind (mapA (rng (0) (Int.toNat ((width_646 * height_647)))) [] (fun x => noEr (F__law_plane_c3 (top_648) (values_650) x))) fun v697 => .ok (v697) else .ok (values_650)) : Rx ((List Int)))) fun s => F__law_plane_k2 (width_646) (height_647) (top_648) (kind_649) s

def F__law_plane (cell' : Int) (width' : Int) (height' : Int) (top' : Int) : Rx (List (List Int)) :=
  bnd ((cell' % 4)) fun kind_616 => grd ((-(2 ^ 64) < (width' : Int) ∧ (width' : Int) < 2 ^ 64) ∨ (-(2 ^ 64) < (height' : Int) ∧ (height' : Int) < 2 ^ 64)) <| grd (-(2 ^ 63) ≤ ((width' * height') : Int) ∧ ((width' * height') : Int) < 2 ^ 63 ∧ ([(top' + 1)]).length * Int.toNat ((width' * height')) ≤ 1000000) <| Rx.bind (F__law_draws ((cell' / 4)) (repL ([(top' + 1)]) ((width' * height')))) fun v637 => Rx.bind (((if (kind_616 : Int) = 0 then grd (-((v637 : (List Int)).length : Int) ≤ 0 ∧ 0 < ((v637 : (List Int)).length : Int)) <| grd ((-(2 ^ 64) < (width' : Int) ∧ (width' : Int) < 2 ^ 64) ∨ (-(2 ^ 64) < (height' : Int) ∧ (height' : Int) < 2 ^ 64)) <| grd (-(2 ^ 63) ≤ ((width' * height') : Int) ∧ ((width' * height') : Int) < 2 ^ 63 ∧ ([(itD (v637) (0))]).length * Int.toNat ((width' * height')) ≤ 1000000) <| .ok (repL ([(itD (v637) (0))]) ((width' * height'))) else .ok (v637)) : Rx ((List Int)))) fun s => F__law_plane_k1 (width') (height') (top') (kind_616) s

def F__law_reference_c1 (n_915 : (List Int)) (it944 : Int) : Rx (Int × Int) :=
  Rx.bind (F__law_coded (n_915) it944) fun v945 => .ok v945

def F__law_reference_c2 (cell_981 : Int) (top_982 : Int) (sizes_983 : (List (Int × Int))) (it1014 : Int) : Rx (List (List Int)) :=
  grd (0 < ((1 + it1014) : Int) ∧ ((1 + it1014) : Int) < 2 ^ 128) <| grd (-((sizes_983 : (List (Int × Int))).length : Int) ≤ it1014 ∧ it1014 < ((sizes_983 : (List (Int × Int))).length : Int)) <| grd (-((sizes_983 : (List (Int × Int))).length : Int) ≤ it1014 ∧ it1014 < ((sizes_983 : (List (Int × Int))).length : Int)) <| Rx.bind (F__law_plane ((cell_981 / (1 + it1014))) ((itD (sizes_983) (it1014)).1) ((itD (sizes_983) (it1014)).2) top_982) fun v1036 => .ok v1036

def F__law_reference (cell' : Int) (n' : (List Int)) : Rx (List (List (List Int))) :=
  grd (-((n' : (List Int)).length : Int) ≤ 2 ∧ 2 < ((n' : (List Int)).length : Int)) <| grd ((0 : Int) ≤ (itD (n') (2)) ∧ ((itD (n') (2)) : Int) ≤ 4096 ∧ -(2 ^ 4096) < (1 : Int) ∧ (1 : Int) < 2 ^ 4096) <| bnd (((1 * 2 ^ Int.toNat ((itD (n') (2)))) - 1)) fun top_912 => grd (-((n' : (List Int)).length : Int) ≤ 3 ∧ 3 < ((n' : (List Int)).length : Int)) <| grd (-(2 ^ 62) ≤ ((1 + (2 * (if decide (0 < (itD (n') (3))) = true then 1 else 0))) : Int) ∧ ((1 + (2 * (if decide (0 < (itD (n') (3))) = true then 1 else 0))) : Int) < 2 ^ 62) <| Rx.bind (mapA (rng (0) (Int.toNat ((1 + (2 * (if decide (0 < (itD (n') (3))) = true then 1 else 0)))))) [] (fun x => noEr (F__law_reference_c1 (n') x))) fun v916 => grd (-(2 ^ 62) ≤ ((((v916) : (List (Int × Int))).length : Int) : Int) ∧ ((((v916) : (List (Int × Int))).length : Int) : Int) < 2 ^ 62) <| Rx.bind (mapA (rng (0) (Int.toNat ((((v916) : (List (Int × Int))).length : Int)))) [] (fun x => noEr (F__law_reference_c2 (cell') (top_912) (v916) x))) fun v984 => .ok (v984)

def F__law_copy_c2 (it1171 : (List Int)) : Rx (List Int) :=
  .ok it1171

def F__law_copy_c1 (it1124 : (List (List Int))) : Rx (List (List Int)) :=
  Rx.bind (mapA (it1124) [] (fun x => noEr (F__law_copy_c2  x))) fun v1125 => .ok v1125

def F__law_copy (planes' : (List (List (List Int)))) : Rx (List (List (List Int))) :=
  Rx.bind (mapA (planes') [] (fun x => noEr (F__law_copy_c1  x))) fun v1079 => .ok (v1079)

def F__law_component (first' : Int) (second' : Int) : Rx Int :=
  grd (-(([0, 1023, (-1023), 4, ((second' % 9) - 4), ((second' % 65) - 32), ((second' % 2047) - 1023)] : (List Int)).length : Int) ≤ first' ∧ first' < (([0, 1023, (-1023), 4, ((second' % 9) - 4), ((second' % 65) - 32), ((second' % 2047) - 1023)] : (List Int)).length : Int)) <| .ok ((itD ([0, 1023, (-1023), 4, ((second' % 9) - 4), ((second' % 65) - 32), ((second' % 2047) - 1023)]) (first')))

def F__law_motion (cell' : Int) (kind' : Int) (refs' : Int) : Rx (Int × Int × PyData × PyData) :=
  Rx.bind (F__law_draws cell' ([3, 2, 7, 2047, 7, 2047, 7, 2047, 7, 2047])) fun v1251 => grd (-((v1251 : (List Int)).length : Int) ≤ 2 ∧ 2 < ((v1251 : (List Int)).length : Int)) <| grd (-((v1251 : (List Int)).length : Int) ≤ 3 ∧ 3 < ((v1251 : (List Int)).length : Int)) <| Rx.bind (F__law_component ((itD (v1251) (2))) ((itD (v1251) (3)))) fun v1262 => grd (-((v1251 : (List Int)).length : Int) ≤ 4 ∧ 4 < ((v1251 : (List Int)).length : Int)) <| grd (-((v1251 : (List Int)).length : Int) ≤ 5 ∧ 5 < ((v1251 : (List Int)).length : Int)) <| Rx.bind (F__law_component ((itD (v1251) (4))) ((itD (v1251) (5)))) fun v1269 => grd (-((v1251 : (List Int)).length : Int) ≤ 6 ∧ 6 < ((v1251 : (List Int)).length : Int)) <| grd (-((v1251 : (List Int)).length : Int) ≤ 7 ∧ 7 < ((v1251 : (List Int)).length : Int)) <| Rx.bind (F__law_component ((itD (v1251) (6))) ((itD (v1251) (7)))) fun v1288 => grd (-((v1251 : (List Int)).length : Int) ≤ 8 ∧ 8 < ((v1251 : (List Int)).length : Int)) <| grd (-((v1251 : (List Int)).length : Int) ≤ 9 ∧ 9 < ((v1251 : (List Int)).length : Int)) <| Rx.bind (F__law_component ((itD (v1251) (8))) ((itD (v1251) (9)))) fun v1295 => (if (kind' : Int) = 1 then grd (-((v1251 : (List Int)).length : Int) ≤ 1 ∧ 1 < ((v1251 : (List Int)).length : Int)) <| grd (0 < (refs' : Int)) <| .ok ((0, ((itD (v1251) (1)) % refs'), ((encT2 PyData.int PyData.int) ((v1262, v1269))), (encN (())))) else grd (-((v1251 : (List Int)).length : Int) ≤ 0 ∧ 0 < ((v1251 : (List Int)).length : Int)) <| (if ((itD (v1251) (0)) : Int) = 0 then .ok ((0, 0, ((encT2 PyData.int PyData.int) ((v1262, v1269))), (encN (())))) else grd (-((v1251 : (List Int)).length : Int) ≤ 0 ∧ 0 < ((v1251 : (List Int)).length : Int)) <| (if ((itD (v1251) (0)) : Int) = 1 then .ok ((1, 0, (encN (())), ((encT2 PyData.int PyData.int) ((v1288, v1295))))) else .ok ((2, 0, ((encT2 PyData.int PyData.int) ((v1262, v1269))), ((encT2 PyData.int PyData.int) ((v1288, v1295))))))))

def F__law_at (plane' : (List (List Int))) (x' : Int) (y' : Int) : Rx Int :=
  grd (-((plane' : (List (List Int))).length : Int) ≤ (if ((((plane') : (List (List Int))).length : Int) - 1) < (if 0 > y' then 0 else y') then ((((plane') : (List (List Int))).length : Int) - 1) else (if 0 > y' then 0 else y')) ∧ (if ((((plane') : (List (List Int))).length : Int) - 1) < (if 0 > y' then 0 else y') then ((((plane') : (List (List Int))).length : Int) - 1) else (if 0 > y' then 0 else y')) < ((plane' : (List (List Int))).length : Int)) <| grd (-(((itD (plane') ((if ((((plane') : (List (List Int))).length : Int) - 1) < (if 0 > y' then 0 else y') then ((((plane') : (List (List Int))).length : Int) - 1) else (if 0 > y' then 0 else y')))) : (List Int)).length : Int) ≤ (if (((((itD (plane') ((if ((((plane') : (List (List Int))).length : Int) - 1) < (if 0 > y' then 0 else y') then ((((plane') : (List (List Int))).length : Int) - 1) else (if 0 > y' then 0 else y'))))) : (List Int)).length : Int) - 1) < (if 0 > x' then 0 else x') then (((((itD (plane') ((if ((((plane') : (List (List Int))).length : Int) - 1) < (if 0 > y' then 0 else y') then ((((plane') : (List (List Int))).length : Int) - 1) else (if 0 > y' then 0 else y'))))) : (List Int)).length : Int) - 1) else (if 0 > x' then 0 else x')) ∧ (if (((((itD (plane') ((if ((((plane') : (List (List Int))).length : Int) - 1) < (if 0 > y' then 0 else y') then ((((plane') : (List (List Int))).length : Int) - 1) else (if 0 > y' then 0 else y'))))) : (List Int)).length : Int) - 1) < (if 0 > x' then 0 else x') then (((((itD (plane') ((if ((((plane') : (List (List Int))).length : Int) - 1) < (if 0 > y' then 0 else y') then ((((plane') : (List (List Int))).length : Int) - 1) else (if 0 > y' then 0 else y'))))) : (List Int)).length : Int) - 1) else (if 0 > x' then 0 else x')) < (((itD (plane') ((if ((((plane') : (List (List Int))).length : Int) - 1) < (if 0 > y' then 0 else y') then ((((plane') : (List (List Int))).length : Int) - 1) else (if 0 > y' then 0 else y')))) : (List Int)).length : Int)) <| .ok ((itD ((itD (plane') ((if ((((plane') : (List (List Int))).length : Int) - 1) < (if 0 > y' then 0 else y') then ((((plane') : (List (List Int))).length : Int) - 1) else (if 0 > y' then 0 else y'))))) ((if (((((itD (plane') ((if ((((plane') : (List (List Int))).length : Int) - 1) < (if 0 > y' then 0 else y') then ((((plane') : (List (List Int))).length : Int) - 1) else (if 0 > y' then 0 else y'))))) : (List Int)).length : Int) - 1) < (if 0 > x' then 0 else x') then (((((itD (plane') ((if ((((plane') : (List (List Int))).length : Int) - 1) < (if 0 > y' then 0 else y') then ((((plane') : (List (List Int))).length : Int) - 1) else (if 0 > y' then 0 else y'))))) : (List Int)).length : Int) - 1) else (if 0 > x' then 0 else x')))))

def F__law_eighth (plane' : (List (List Int))) (x' : Int) (y' : Int) : Rx Int :=
  bnd ((PySem.Builtin.bitAnd (x') (7))) fun f_1391 => bnd ((PySem.Builtin.bitAnd (y') (7))) fun g_1392 => bnd ((x' / 8)) fun i_1393 => bnd ((y' / 8)) fun j_1394 => Rx.bind (F__law_at (plane') i_1393 j_1394) fun v1395 => grd ((-(2 ^ 64) < ((8 - f_1391) : Int) ∧ ((8 - f_1391) : Int) < 2 ^ 64) ∨ (-(2 ^ 64) < (v1395 : Int) ∧ (v1395 : Int) < 2 ^ 64)) <| Rx.bind (F__law_at (plane') ((i_1393 + 1)) j_1394) fun v1397 => grd ((-(2 ^ 64) < (f_1391 : Int) ∧ (f_1391 : Int) < 2 ^ 64) ∨ (-(2 ^ 64) < (v1397 : Int) ∧ (v1397 : Int) < 2 ^ 64)) <| bnd ((((8 - f_1391) * v1395) + (f_1391 * v1397))) fun upper_1399 => Rx.bind (F__law_at (plane') i_1393 ((j_1394 + 1))) fun v1400 => grd ((-(2 ^ 64) < ((8 - f_1391) : Int) ∧ ((8 - f_1391) : Int) < 2 ^ 64) ∨ (-(2 ^ 64) < (v1400 : Int) ∧ (v1400 : Int) < 2 ^ 64)) <| Rx.bind (F__law_at (plane') ((i_1393 + 1)) ((j_1394 + 1))) fun v1402 => grd ((-(2 ^ 64) < (f_1391 : Int) ∧ (f_1391 : Int) < 2 ^ 64) ∨ (-(2 ^ 64) < (v1402 : Int) ∧ (v1402 : Int) < 2 ^ 64)) <| bnd ((((8 - f_1391) * v1400) + (f_1391 * v1402))) fun lower_1404 => grd ((-(2 ^ 64) < ((8 - g_1392) : Int) ∧ ((8 - g_1392) : Int) < 2 ^ 64) ∨ (-(2 ^ 64) < (upper_1399 : Int) ∧ (upper_1399 : Int) < 2 ^ 64)) <| grd ((-(2 ^ 64) < (g_1392 : Int) ∧ (g_1392 : Int) < 2 ^ 64) ∨ (-(2 ^ 64) < (lower_1404 : Int) ∧ (lower_1404 : Int) < 2 ^ 64)) <| .ok ((((((8 - g_1392) * upper_1399) + (g_1392 * lower_1404)) + 32) / 64))

def F__law_quarter_c2 (plane_1513 : (List (List Int))) (across_1514 : (List Int)) (i_1515 : Int) (j_1516 : Int) (t_1517 : Int) (it1548 : Int) : Rx Int :=
  grd (-((across_1514 : (List Int)).length : Int) ≤ it1548 ∧ it1548 < ((across_1514 : (List Int)).length : Int)) <| Rx.bind (F__law_at (plane_1513) ((i_1515 + it1548)) ((j_1516 + t_1517))) fun v1550 => grd ((-(2 ^ 64) < ((itD (across_1514) (it1548)) : Int) ∧ ((itD (across_1514) (it1548)) : Int) < 2 ^ 64) ∨ (-(2 ^ 64) < (v1550 : Int) ∧ (v1550 : Int) < 2 ^ 64)) <| .ok (((itD (across_1514) (it1548)) * v1550))

def F__law_quarter_b1 (plane_1490 : (List (List Int))) (across_1491 : (List Int)) (down_1492 : (List Int)) (i_1493 : Int) (j_1494 : Int) (total_1506 : Int) (it1509 : Int) : Rx (Int) :=
  grd (-((down_1492 : (List Int)).length : Int) ≤ it1509 ∧ it1509 < ((down_1492 : (List Int)).length : Int)) <| (if ((itD (down_1492) (it1509)) : Int) = 0 then .ok (total_1506) else grd (-((down_1492 : (List Int)).length : Int) ≤ it1509 ∧ it1509 < ((down_1492 : (List Int)).length : Int)) <| Rx.bind (mapA (rng (0) (Int.toNat (6))) [] (fun x => noEr (F__law_quarter_c2 (plane_1490) (across_1491) (i_1493) (j_1494) (it1509) x))) fun v1518 => grd ((-(2 ^ 64) < ((itD (down_1492) (it1509)) : Int) ∧ ((itD (down_1492) (it1509)) : Int) < 2 ^ 64) ∨ (-(2 ^ 64) < ((List.sum (v1518)) : Int) ∧ ((List.sum (v1518)) : Int) < 2 ^ 64)) <| bnd ((total_1506 + ((itD (down_1492) (it1509)) * (List.sum (v1518))))) fun total_1573 => .ok (total_1573))

def F__law_quarter_r1 (top_1495 : Int) (total_1579 : Int) : Rx Int :=
  .ok ((if top_1495 < (if 0 > (total_1579 / 4096) then 0 else (total_1579 / 4096)) then top_1495 else (if 0 > (total_1579 / 4096) then 0 else (total_1579 / 4096))))

def F__law_quarter (plane' : (List (List Int))) (x' : Int) (y' : Int) (top' : Int) : Rx Int :=
  grd (-(([[0, 0, 64, 0, 0, 0], [1, (-5), 52, 20, (-5), 1], [2, (-10), 40, 40, (-10), 2], [1, (-5), 20, 52, (-5), 1]] : (List (List Int))).length : Int) ≤ (PySem.Builtin.bitAnd (x') (3)) ∧ (PySem.Builtin.bitAnd (x') (3)) < (([[0, 0, 64, 0, 0, 0], [1, (-5), 52, 20, (-5), 1], [2, (-10), 40, 40, (-10), 2], [1, (-5), 20, 52, (-5), 1]] : (List (List Int))).length : Int)) <| grd (-(([[0, 0, 64, 0, 0, 0], [1, (-5), 52, 20, (-5), 1], [2, (-10), 40, 40, (-10), 2], [1, (-5), 20, 52, (-5), 1]] : (List (List Int))).length : Int) ≤ (PySem.Builtin.bitAnd (y') (3)) ∧ (PySem.Builtin.bitAnd (y') (3)) < (([[0, 0, 64, 0, 0, 0], [1, (-5), 52, 20, (-5), 1], [2, (-10), 40, 40, (-10), 2], [1, (-5), 20, 52, (-5), 1]] : (List (List Int))).length : Int)) <| bnd (((x' / 4) - 2)) fun i_1488 => bnd (((y' / 4) - 2)) fun j_1489 => Rx.bind (forS (rng (0) (Int.toNat (6))) (2048) (fun s x => F__law_quarter_b1 (plane') ((itD ([[0, 0, 64, 0, 0, 0], [1, (-5), 52, 20, (-5), 1], [2, (-10), 40, 40, (-10), 2], [1, (-5), 20, 52, (-5), 1]]) ((PySem.Builtin.bitAnd (x') (3))))) ((itD ([[0, 0, 64, 0, 0, 0], [1, (-5), 52, 20, (-5), 1], [2, (-10), 40, 40, (-10), 2], [1, (-5), 20, 52, (-5), 1]]) ((PySem.Builtin.bitAnd (y') (3))))) (i_1488) (j_1489) s x)) fun s => F__law_quarter_r1 (top') s

def F__law_rows_b2 (planes_1648 : (List (List (List Int)))) (plane_1649 : Int) (vector_1650 : (Int × Int)) (n_1651 : (List Int)) (top_1652 : Int) (j_1653 : Int) (row_1667 : (List Int)) (it1670 : Int) : Rx ((List Int)) :=
  (if 0 < plane_1649 then grd (-((n_1651 : (List Int)).length : Int) ≤ 3 ∧ 3 < ((n_1651 : (List Int)).length : Int)) <| (if ((itD (n_1651) (3)) : Int) = 1 then grd (-((planes_1648 : (List (List (List Int)))).length : Int) ≤ plane_1649 ∧ plane_1649 < ((planes_1648 : (List (List (List Int)))).length : Int)) <| Rx.bind (F__law_eighth ((itD (planes_1648) (plane_1649))) (((8 * it1670) + vector_1650.1)) (((8 * j_1653) + vector_1650.2))) fun v1682 => grd ((row_1667).length ≤ 1000000) <| bnd ((row_1667) ++ [v1682]) fun y1690 => .ok (y1690) else grd (-((planes_1648 : (List (List (List Int)))).length : Int) ≤ plane_1649 ∧ plane_1649 < ((planes_1648 : (List (List (List Int)))).length : Int)) <| Rx.bind (F__law_quarter ((itD (planes_1648) (plane_1649))) (((4 * it1670) + vector_1650.1)) (((4 * j_1653) + vector_1650.2)) top_1652) fun v1700 => grd ((row_1667).length ≤ 1000000) <| bnd ((row_1667) ++ [v1700]) fun y1712 => .ok (y1712)) else grd (-((planes_1648 : (List (List (List Int)))).length : Int) ≤ plane_1649 ∧ plane_1649 < ((planes_1648 : (List (List (List Int)))).length : Int)) <| Rx.bind (F__law_quarter ((itD (planes_1648) (plane_1649))) (((4 * it1670) + vector_1650.1)) (((4 * j_1653) + vector_1650.2)) top_1652) fun v1722 => grd ((row_1667).length ≤ 1000000) <| bnd ((row_1667) ++ [v1722]) fun y1734 => .ok (y1734))

def F__law_rows_r2 (rows_1654 : (List (List Int))) (row_1742 : (List Int)) : Rx ((List (List Int))) :=
  grd ((rows_1654).length ≤ 1000000) <| bnd ((rows_1654) ++ [row_1742]) fun y1755 => .ok (y1755)

def F__law_rows_b1 (planes_1614 : (List (List (List Int)))) (plane_1615 : Int) (vector_1616 : (Int × Int)) (n_1617 : (List Int)) (place_1618 : (Int × Int × Int × Int)) (top_1619 : Int) (rows_1634 : (List (List Int))) (it1637 : Int) : Rx ((List (List Int))) :=
  grd (-(2 ^ 62) ≤ (place_1618.1 : Int) ∧ (place_1618.1 : Int) < 2 ^ 62 ∧ -(2 ^ 62) ≤ ((place_1618.1 + place_1618.2.2.1) : Int) ∧ ((place_1618.1 + place_1618.2.2.1) : Int) < 2 ^ 62) <| Rx.bind (forS (rng (place_1618.1) (Int.toNat ((place_1618.1 + place_1618.2.2.1) - place_1618.1))) (([] : (List Int))) (fun s x => F__law_rows_b2 (planes_1614) (plane_1615) (vector_1616) (n_1617) (top_1619) (it1637) s x)) fun s => F__law_rows_r2 (rows_1634) s

def F__law_rows_r1 (rows_1762 : (List (List Int))) : Rx (List (List Int)) :=
  .ok (rows_1762)

def F__law_rows (planes' : (List (List (List Int)))) (plane' : Int) (vector' : (Int × Int)) (n' : (List Int)) (place' : (Int × Int × Int × Int)) : Rx (List (List Int)) :=
  grd (-((n' : (List Int)).length : Int) ≤ 2 ∧ 2 < ((n' : (List Int)).length : Int)) <| grd ((0 : Int) ≤ (itD (n') (2)) ∧ ((itD (n') (2)) : Int) ≤ 4096 ∧ -(2 ^ 4096) < (1 : Int) ∧ (1 : Int) < 2 ^ 4096) <| bnd (((1 * 2 ^ Int.toNat ((itD (n') (2)))) - 1)) fun top_1612 => grd (-(2 ^ 62) ≤ (place'.2.1 : Int) ∧ (place'.2.1 : Int) < 2 ^ 62 ∧ -(2 ^ 62) ≤ ((place'.2.1 + place'.2.2.2) : Int) ∧ ((place'.2.1 + place'.2.2.2) : Int) < 2 ^ 62) <| Rx.bind (forS (rng (place'.2.1) (Int.toNat ((place'.2.1 + place'.2.2.2) - place'.2.1))) (([] : (List (List Int)))) (fun s x => F__law_rows_b1 (planes') (plane') (vector') (n') (place') (top_1612) s x)) fun s => F__law_rows_r1  s

def F__law_predict_c2 (weight_1951 : Int) (last_1952 : (List (List Int))) (first_1953 : (List (List Int))) (j_1954 : Int) (it1985 : Int) : Rx Int :=
  grd (-((last_1952 : (List (List Int))).length : Int) ≤ j_1954 ∧ j_1954 < ((last_1952 : (List (List Int))).length : Int)) <| grd (-(((itD (last_1952) (j_1954)) : (List Int)).length : Int) ≤ it1985 ∧ it1985 < (((itD (last_1952) (j_1954)) : (List Int)).length : Int)) <| grd ((-(2 ^ 64) < ((itD ((itD (last_1952) (j_1954))) (it1985)) : Int) ∧ ((itD ((itD (last_1952) (j_1954))) (it1985)) : Int) < 2 ^ 64) ∨ (-(2 ^ 64) < (weight_1951 : Int) ∧ (weight_1951 : Int) < 2 ^ 64)) <| grd (-((first_1953 : (List (List Int))).length : Int) ≤ j_1954 ∧ j_1954 < ((first_1953 : (List (List Int))).length : Int)) <| grd (-(((itD (first_1953) (j_1954)) : (List Int)).length : Int) ≤ it1985 ∧ it1985 < (((itD (first_1953) (j_1954)) : (List Int)).length : Int)) <| grd ((-(2 ^ 64) < ((itD ((itD (first_1953) (j_1954))) (it1985)) : Int) ∧ ((itD ((itD (first_1953) (j_1954))) (it1985)) : Int) < 2 ^ 64) ∨ (-(2 ^ 64) < ((16 - weight_1951) : Int) ∧ ((16 - weight_1951) : Int) < 2 ^ 64)) <| .ok ((((((itD ((itD (last_1952) (j_1954))) (it1985)) * weight_1951) + ((itD ((itD (first_1953) (j_1954))) (it1985)) * (16 - weight_1951))) + 8) / 16))

def F__law_predict_b1 (weight_1925 : Int) (last_1926 : (List (List Int))) (first_1927 : (List (List Int))) (rows_1940 : (List (List Int))) (it1943 : Int) : Rx ((List (List Int))) :=
  grd (-((first_1927 : (List (List Int))).length : Int) ≤ it1943 ∧ it1943 < ((first_1927 : (List (List Int))).length : Int)) <| grd (-(2 ^ 62) ≤ (((((itD (first_1927) (it1943))) : (List Int)).length : Int) : Int) ∧ (((((itD (first_1927) (it1943))) : (List Int)).length : Int) : Int) < 2 ^ 62) <| Rx.bind (mapA (rng (0) (Int.toNat (((((itD (first_1927) (it1943))) : (List Int)).length : Int)))) [] (fun x => noEr (F__law_predict_c2 (weight_1925) (last_1926) (first_1927) (it1943) x))) fun v1955 => grd ((rows_1940).length ≤ 1000000) <| bnd ((rows_1940) ++ [v1955]) fun y2034 => .ok (y2034)

def F__law_predict_r1 (rows_2041 : (List (List Int))) : Rx (List (List Int)) :=
  .ok (rows_2041)

def F__law_predict (n' : (List Int)) (kind' : Int) (weight' : Int) (motion' : (Int × Int × PyData × PyData)) (references' : (List (List (List (List Int))))) (plane' : Int) (place' : (Int × Int × Int × Int)) : Rx (List (List Int)) :=
  (if (kind' : Int) = 1 then grd (-((references' : (List (List (List (List Int))))).length : Int) ≤ motion'.2.1 ∧ motion'.2.1 < ((references' : (List (List (List (List Int))))).length : Int)) <| grd (((cT2 cI cI)).ok (motion'.2.2.1) = true) <| Rx.bind (F__law_rows ((itD (references') (motion'.2.1))) plane' ((((cT2 cI cI)).dec (motion'.2.2.1))) (n') (place')) fun v1808 => .ok (v1808) else (if (motion'.1 : Int) = 0 then grd (-((references' : (List (List (List (List Int))))).length : Int) ≤ 0 ∧ 0 < ((references' : (List (List (List (List Int))))).length : Int)) <| grd (((cT2 cI cI)).ok (motion'.2.2.1) = true) <| Rx.bind (F__law_rows ((itD (references') (0))) plane' ((((cT2 cI cI)).dec (motion'.2.2.1))) (n') (place')) fun v1839 => .ok (v1839) else grd (-((references' : (List (List (List (List Int))))).length : Int) ≤ 1 ∧ 1 < ((references' : (List (List (List (List Int))))).length : Int)) <| grd (((cT2 cI cI)).ok (motion'.2.2.2) = true) <| Rx.bind (F__law_rows ((itD (references') (1))) plane' ((((cT2 cI cI)).dec (motion'.2.2.2))) (n') (place')) fun v1869 => (if (motion'.1 : Int) = 1 then .ok (v1869) else grd (-((references' : (List (List (List (List Int))))).length : Int) ≤ 0 ∧ 0 < ((references' : (List (List (List (List Int))))).length : Int)) <| grd (((cT2 cI cI)).ok (motion'.2.2.1) = true) <| Rx.bind (F__law_rows ((itD (references') (0))) plane' ((((cT2 cI cI)).dec (motion'.2.2.1))) (n') (place')) fun v1900 => grd (-(2 ^ 62) ≤ ((((v1900) : (List (List Int))).length : Int) : Int) ∧ ((((v1900) : (List (List Int))).length : Int) : Int) < 2 ^ 62) <| Rx.bind (forS (rng (0) (Int.toNat ((((v1900) : (List (List Int))).length : Int)))) (([] : (List (List Int)))) (fun s x => F__law_predict_b1 (weight') (v1869) (v1900) s x)) fun s => F__law_predict_r1  s)))

def F_clip (value' : Int) (low' : Int) (high' : Int) : Rx Int :=
  .ok ((if high' < (if low' > value' then low' else value') then high' else (if low' > value' then low' else value')))

def F__samples_c1 (plane_2051 : (List (List Int))) (it2080 : Int) : Rx Int :=
  grd (-((plane_2051 : (List (List Int))).length : Int) ≤ 0 ∧ 0 < ((plane_2051 : (List (List Int))).length : Int)) <| Rx.bind (F_clip it2080 0 ((((((itD (plane_2051) (0))) : (List Int)).length : Int) - 1))) fun v2087 => .ok v2087

def F__samples_c2 (plane_2107 : (List (List Int))) (it2138 : Int) : Rx Int :=
  Rx.bind (F_clip it2138 0 (((((plane_2107) : (List (List Int))).length : Int) - 1))) fun v2139 => .ok v2139

def F__samples_c4 (plane_2209 : (List (List Int))) (row_2210 : Int) (it2263 : Int) : Rx Int :=
  grd (-((plane_2209 : (List (List Int))).length : Int) ≤ row_2210 ∧ row_2210 < ((plane_2209 : (List (List Int))).length : Int)) <| grd (-(((itD (plane_2209) (row_2210)) : (List Int)).length : Int) ≤ it2263 ∧ it2263 < (((itD (plane_2209) (row_2210)) : (List Int)).length : Int)) <| .ok ((itD ((itD (plane_2209) (row_2210))) (it2263)))

def F__samples_c3 (plane_2160 : (List (List Int))) (columns_2161 : (List Int)) (it2208 : Int) : Rx (List Int) :=
  Rx.bind (mapA (columns_2161) [] (fun x => noEr (F__samples_c4 (plane_2160) (it2208) x))) fun v2211 => .ok v2211

def F__samples (plane' : (List (List Int))) (x' : Int) (y' : Int) (width' : Int) (height' : Int) : Rx (List (List Int)) :=
  grd (-(2 ^ 62) ≤ (x' : Int) ∧ (x' : Int) < 2 ^ 62 ∧ -(2 ^ 62) ≤ ((x' + width') : Int) ∧ ((x' + width') : Int) < 2 ^ 62) <| Rx.bind (mapA (rng (x') (Int.toNat ((x' + width') - x'))) [] (fun x => noEr (F__samples_c1 (plane') x))) fun v2052 => grd (-(2 ^ 62) ≤ (y' : Int) ∧ (y' : Int) < 2 ^ 62 ∧ -(2 ^ 62) ≤ ((y' + height') : Int) ∧ ((y' + height') : Int) < 2 ^ 62) <| Rx.bind (mapA (rng (y') (Int.toNat ((y' + height') - y'))) [] (fun x => noEr (F__samples_c2 (plane') x))) fun v2108 => Rx.bind (mapA (v2108) [] (fun x => noEr (F__samples_c3 (plane') (v2052) x))) fun v2162 => .ok (v2162)

def F__weighted_c2 (p_2353 : Int) (q_2354 : Int) (r_2355 : Int) (s_2356 : Int) (t_2357 : Int) (u_2358 : Int) (it2409 : (List Int)) : Rx Int :=
  grd ((it2409).length = 6) <| grd ((-(2 ^ 64) < (p_2353 : Int) ∧ (p_2353 : Int) < 2 ^ 64) ∨ (-(2 ^ 64) < ((itD (it2409) 0) : Int) ∧ ((itD (it2409) 0) : Int) < 2 ^ 64)) <| grd ((-(2 ^ 64) < (q_2354 : Int) ∧ (q_2354 : Int) < 2 ^ 64) ∨ (-(2 ^ 64) < ((itD (it2409) 1) : Int) ∧ ((itD (it2409) 1) : Int) < 2 ^ 64)) <| grd ((-(2 ^ 64) < (r_2355 : Int) ∧ (r_2355 : Int) < 2 ^ 64) ∨ (-(2 ^ 64) < ((itD (it2409) 2) : Int) ∧ ((itD (it2409) 2) : Int) < 2 ^ 64)) <| grd ((-(2 ^ 64) < (s_2356 : Int) ∧ (s_2356 : Int) < 2 ^ 64) ∨ (-(2 ^ 64) < ((itD (it2409) 3) : Int) ∧ ((itD (it2409) 3) : Int) < 2 ^ 64)) <| grd ((-(2 ^ 64) < (t_2357 : Int) ∧ (t_2357 : Int) < 2 ^ 64) ∨ (-(2 ^ 64) < ((itD (it2409) 4) : Int) ∧ ((itD (it2409) 4) : Int) < 2 ^ 64)) <| grd ((-(2 ^ 64) < (u_2358 : Int) ∧ (u_2358 : Int) < 2 ^ 64) ∨ (-(2 ^ 64) < ((itD (it2409) 5) : Int) ∧ ((itD (it2409) 5) : Int) < 2 ^ 64)) <| .ok (((((((p_2353 * (itD (it2409) 0)) + (q_2354 * (itD (it2409) 1))) + (r_2355 * (itD (it2409) 2))) + (s_2356 * (itD (it2409) 3))) + (t_2357 * (itD (it2409) 4))) + (u_2358 * (itD (it2409) 5))))

def F__weighted_k1 (lines_2323 : (List (List Int))) (p_2324 : Int) (q_2325 : Int) (r_2326 : Int) (s_2327 : Int) (t_2328 : Int) (u_2329 : Int) : Rx (List Int) :=
  grd ((lines_2323 : List (List Int)).length = 4 ∨ (lines_2323 : List (List Int)).length = 6 ∨ (lines_2323 : List (List Int)).length = 8) <| Rx.bind (mapA (zipRows (lines_2323)) [] (fun x => noEr (F__weighted_c2 (p_2324) (q_2325) (r_2326) (s_2327) (t_2328) (u_2329) x))) fun v2359 => .ok (v2359)

def F__weighted (weights' : (List Int)) (lines' : (List (List Int))) : Rx (List Int) :=
  Rx.bind ((grd ((weights').length = 6) <| bnd ((itD (weights') 0)) fun p_2339 => bnd ((itD (weights') 1)) fun q_2340 => bnd ((itD (weights') 2)) fun r_2341 => bnd ((itD (weights') 3)) fun s_2342 => bnd ((itD (weights') 4)) fun t_2343 => bnd ((itD (weights') 5)) fun u_2344 => .ok ((p_2339), (q_2340), (r_2341), (s_2342), (t_2343), (u_2344)) : Rx (Int × Int × Int × Int × Int × Int))) fun s => F__weighted_k1 (lines') (s.1) (s.2.1) (s.2.2.1) (s.2.2.2.1) (s.2.2.2.2.1) (s.2.2.2.2.2)

def F_quarter_area_c2 (width_2532 : Int) (row_2533 : (List Int)) (it2568 : Int) : Rx (List Int) :=
  .ok (cutL (row_2533) (some (it2568)) (some ((it2568 + width_2532))))

def F_quarter_area_b1 (width_2492 : Int) (f_2493 : Int) (sums_2527 : (List (List Int))) (it2530 : (List Int)) : Rx ((List (List Int))) :=
  grd ((0 : Int) ≤ f_2493 ∧ f_2493 < 4) <| Rx.bind (mapA (rng (0) (Int.toNat (6))) [] (fun x => noEr (F_quarter_area_c2 (width_2492) (it2530) x))) fun v2534 => Rx.bind (F__weighted ((itD ([[0, 0, 64, 0, 0, 0], [1, -5, 52, 20, -5, 1], [2, -10, 40, 40, -10, 2], [1, -5, 20, 52, -5, 1]] : List (List Int)) (f_2493))) (v2534)) fun v2608 => grd ((sums_2527).length ≤ 1000000) <| bnd ((sums_2527) ++ [v2608]) fun y2630 => .ok (y2630)

def F_quarter_area_c4 (top_2699 : Int) (it2749 : Int) : Rx Int :=
  Rx.bind (F_clip (((it2749 + 2048) / 4096)) 0 top_2699) fun v2750 => .ok v2750

def F_quarter_area_c3 (top_2647 : Int) (g_2648 : Int) (sums_2649 : (List (List Int))) (it2678 : Int) : Rx (List Int) :=
  grd ((0 : Int) ≤ g_2648 ∧ g_2648 < 4) <| Rx.bind (F__weighted ((itD ([[0, 0, 64, 0, 0, 0], [1, -5, 52, 20, -5, 1], [2, -10, 40, 40, -10, 2], [1, -5, 20, 52, -5, 1]] : List (List Int)) (g_2648))) (cutL (sums_2649) (some (it2678)) (some ((it2678 + 6))))) fun v2690 => Rx.bind (mapA (v2690) [] (fun x => noEr (F_quarter_area_c4 (top_2647) x))) fun v2700 => .ok v2700

def F_quarter_area_r1 (height_2494 : Int) (top_2495 : Int) (g_2496 : Int) (sums_2641 : (List (List Int))) : Rx (List (List Int)) :=
  grd (-(2 ^ 62) ≤ (height_2494 : Int) ∧ (height_2494 : Int) < 2 ^ 62) <| Rx.bind (mapA (rng (0) (Int.toNat (height_2494))) [] (fun x => noEr (F_quarter_area_c3 (top_2495) (g_2496) (sums_2641) x))) fun v2650 => .ok (v2650)

def F_quarter_area_c6 (width_2862 : Int) (row_2863 : (List Int)) (it2898 : Int) : Rx (List Int) :=
  .ok (cutL (row_2863) (some (it2898)) (some ((it2898 + width_2862))))

def F_quarter_area_b5 (width_2822 : Int) (f_2823 : Int) (sums_2857 : (List (List Int))) (it2860 : (List Int)) : Rx ((List (List Int))) :=
  grd ((0 : Int) ≤ f_2823 ∧ f_2823 < 4) <| Rx.bind (mapA (rng (0) (Int.toNat (6))) [] (fun x => noEr (F_quarter_area_c6 (width_2822) (it2860) x))) fun v2864 => Rx.bind (F__weighted ((itD ([[0, 0, 64, 0, 0, 0], [1, -5, 52, 20, -5, 1], [2, -10, 40, 40, -10, 2], [1, -5, 20, 52, -5, 1]] : List (List Int)) (f_2823))) (v2864)) fun v2938 => grd ((sums_2857).length ≤ 1000000) <| bnd ((sums_2857) ++ [v2938]) fun y2960 => .ok (y2960)

def F_quarter_area_c8 (top_3029 : Int) (it3079 : Int) : Rx Int :=
  Rx.bind (F_clip (((it3079 + 2048) / 4096)) 0 top_3029) fun v3080 => .ok v3080

def F_quarter_area_c7 (top_2977 : Int) (g_2978 : Int) (sums_2979 : (List (List Int))) (it3008 : Int) : Rx (List Int) :=
  grd ((0 : Int) ≤ g_2978 ∧ g_2978 < 4) <| Rx.bind (F__weighted ((itD ([[0, 0, 64, 0, 0, 0], [1, -5, 52, 20, -5, 1], [2, -10, 40, 40, -10, 2], [1, -5, 20, 52, -5, 1]] : List (List Int)) (g_2978))) (cutL (sums_2979) (some (it3008)) (some ((it3008 + 6))))) fun v3020 => Rx.bind (mapA (v3020) [] (fun x => noEr (F_quarter_area_c8 (top_2977) x))) fun v3030 => .ok v3030

def F_quarter_area_r5 (height_2824 : Int) (top_2825 : Int) (g_2826 : Int) (sums_2971 : (List (List Int))) : Rx (List (List Int)) :=
  grd (-(2 ^ 62) ≤ (height_2824 : Int) ∧ (height_2824 : Int) < 2 ^ 62) <| Rx.bind (mapA (rng (0) (Int.toNat (height_2824))) [] (fun x => noEr (F_quarter_area_c7 (top_2825) (g_2826) (sums_2971) x))) fun v2980 => .ok (v2980)

def F_quarter_area (plane' : (List (List Int))) (x' : Int) (y' : Int) (width' : Int) (height' : Int) (top' : Int) : Rx (List (List Int)) :=
  bnd ((PySem.Builtin.bitAnd (x') (3))) fun f_2440 => bnd ((PySem.Builtin.bitAnd (y') (3))) fun g_2441 => (if (f_2440 : Int) = 0 then (if (g_2441 : Int) = 0 then Rx.bind (F__samples (plane') ((x' / 4)) ((y' / 4)) width' height') fun v2444 => .ok (v2444) else Rx.bind (F__samples (plane') (((x' / 4) - 2)) (((y' / 4) - 2)) ((width' + 5)) ((height' + 5))) fun v2473 => Rx.bind (forS (v2473) (([] : (List (List Int)))) (fun s x => F_quarter_area_b1 (width') (f_2440) s x)) fun s => F_quarter_area_r1 (height') (top') (g_2441) s) else Rx.bind (F__samples (plane') (((x' / 4) - 2)) (((y' / 4) - 2)) ((width' + 5)) ((height' + 5))) fun v2803 => Rx.bind (forS (v2803) (([] : (List (List Int)))) (fun s x => F_quarter_area_b5 (width') (f_2440) s x)) fun s => F_quarter_area_r5 (height') (top') (g_2441) s)

def F_eighth_area_c2 (f_3204 : Int) (it3273 : (Int × Int)) : Rx Int :=
  grd ((-(2 ^ 64) < ((8 - f_3204) : Int) ∧ ((8 - f_3204) : Int) < 2 ^ 64) ∨ (-(2 ^ 64) < (it3273.1 : Int) ∧ (it3273.1 : Int) < 2 ^ 64)) <| grd ((-(2 ^ 64) < (f_3204 : Int) ∧ (f_3204 : Int) < 2 ^ 64) ∨ (-(2 ^ 64) < (it3273.2 : Int) ∧ (it3273.2 : Int) < 2 ^ 64)) <| .ok ((((8 - f_3204) * it3273.1) + (f_3204 * it3273.2)))

def F_eighth_area_b1 (f_3158 : Int) (sums_3190 : (List (List Int))) (it3193 : (List Int)) : Rx ((List (List Int))) :=
  Rx.bind (mapA (List.zip (it3193) (cutL (it3193) (some (1)) none)) [] (fun x => noEr (F_eighth_area_c2 (f_3158) x))) fun v3205 => grd ((sums_3190).length ≤ 1000000) <| bnd ((sums_3190) ++ [v3205]) fun y3315 => .ok (y3315)

def F_eighth_area_c4 (g_3407 : Int) (it3472 : (Int × Int)) : Rx Int :=
  grd ((-(2 ^ 64) < ((8 - g_3407) : Int) ∧ ((8 - g_3407) : Int) < 2 ^ 64) ∨ (-(2 ^ 64) < (it3472.1 : Int) ∧ (it3472.1 : Int) < 2 ^ 64)) <| grd ((-(2 ^ 64) < (g_3407 : Int) ∧ (g_3407 : Int) < 2 ^ 64) ∨ (-(2 ^ 64) < (it3472.2 : Int) ∧ (it3472.2 : Int) < 2 ^ 64)) <| .ok ((((((8 - g_3407) * it3472.1) + (g_3407 * it3472.2)) + 32) / 64))

def F_eighth_area_c3 (g_3341 : Int) (it3406 : ((List Int) × (List Int))) : Rx (List Int) :=
  Rx.bind (mapA (List.zip (it3406.1) (it3406.2)) [] (fun x => noEr (F_eighth_area_c4 (g_3341) x))) fun v3408 => .ok v3408

def F_eighth_area_r1 (g_3159 : Int) (sums_3326 : (List (List Int))) : Rx (List (List Int)) :=
  Rx.bind (mapA (List.zip (sums_3326) (cutL (sums_3326) (some (1)) none)) [] (fun x => noEr (F_eighth_area_c3 (g_3159) x))) fun v3342 => .ok (v3342)

def F_eighth_area (plane' : (List (List Int))) (x' : Int) (y' : Int) (width' : Int) (height' : Int) (top' : Int) : Rx (List (List Int)) :=
  bnd ((PySem.Builtin.bitAnd (x') (7))) fun f_3127 => bnd ((PySem.Builtin.bitAnd (y') (7))) fun g_3128 => Rx.bind (F__samples (plane') ((x' / 8)) ((y' / 8)) ((width' + 1)) ((height' + 1))) fun v3139 => Rx.bind (forS (v3139) (([] : (List (List Int)))) (fun s x => F_eighth_area_b1 (f_3127) s x)) fun s => F_eighth_area_r1 (g_3128) s

def F_Format_top (self' : St_Format) : Rx Int :=
  grd ((0 : Int) ≤ self'.depth ∧ (self'.depth : Int) ≤ 4096 ∧ -(2 ^ 4096) < (1 : Int) ∧ (1 : Int) < 2 ^ 4096) <| .ok (((1 * 2 ^ Int.toNat (self'.depth)) - 1))

def F__predict_vector (fmt' : St_Format) (vector' : (Int × Int)) (reference' : (List (List (List Int)))) (plane' : Int) (x' : Int) (y' : Int) (width' : Int) (height' : Int) : Rx (List (List Int)) :=
  grd (-((reference' : (List (List (List Int)))).length : Int) ≤ plane' ∧ plane' < ((reference' : (List (List (List Int)))).length : Int)) <| (if 0 < plane' then (if (fmt'.chroma : Int) = 1 then Rx.bind (noEr (F_Format_top (fmt'))) fun v3541 => Rx.bind (F_eighth_area ((itD (reference') (plane'))) (((8 * x') + vector'.1)) (((8 * y') + vector'.2)) width' height' v3541) fun v3545 => .ok (v3545) else Rx.bind (noEr (F_Format_top (fmt'))) fun v3564 => Rx.bind (F_quarter_area ((itD (reference') (plane'))) (((4 * x') + vector'.1)) (((4 * y') + vector'.2)) width' height' v3564) fun v3568 => .ok (v3568)) else Rx.bind (noEr (F_Format_top (fmt'))) fun v3587 => Rx.bind (F_quarter_area ((itD (reference') (plane'))) (((4 * x') + vector'.1)) (((4 * y') + vector'.2)) width' height' v3587) fun v3591 => .ok (v3591))

def F__mixed_c2 (weight_3683 : Int) (rest_3684 : Int) (it3746 : (Int × Int)) : Rx Int :=
  grd ((-(2 ^ 64) < (it3746.2 : Int) ∧ (it3746.2 : Int) < 2 ^ 64) ∨ (-(2 ^ 64) < (weight_3683 : Int) ∧ (weight_3683 : Int) < 2 ^ 64)) <| grd ((-(2 ^ 64) < (it3746.1 : Int) ∧ (it3746.1 : Int) < 2 ^ 64) ∨ (-(2 ^ 64) < (rest_3684 : Int) ∧ (rest_3684 : Int) < 2 ^ 64)) <| .ok (((((it3746.2 * weight_3683) + (it3746.1 * rest_3684)) + 8) / 16))

def F__mixed_c1 (weight_3619 : Int) (rest_3620 : Int) (it3682 : ((List Int) × (List Int))) : Rx (List Int) :=
  Rx.bind (mapA (List.zip (it3682.1) (it3682.2)) [] (fun x => noEr (F__mixed_c2 (weight_3619) (rest_3620) x))) fun v3685 => .ok v3685

def F__mixed (one' : (List (List Int))) (other' : (List (List Int))) (weight' : Int) : Rx (List (List Int)) :=
  bnd ((16 - weight')) fun rest_3618 => Rx.bind (mapA (List.zip (one') (other')) [] (fun x => noEr (F__mixed_c1 (weight') (rest_3618) x))) fun v3621 => .ok (v3621)

def F_predict_motion (fmt' : St_Format) (header' : St_PictureHeader) (motion' : (Int × Int × PyData × PyData)) (references' : (List (List (List (List Int))))) (plane' : Int) (x' : Int) (y' : Int) (width' : Int) (height' : Int) : Rx (List (List Int)) :=
  (if (motion'.1 : Int) = 1 then grd (((cT2 cI cI)).ok (motion'.2.2.2) = true) <| grd (-((references' : (List (List (List (List Int))))).length : Int) ≤ 1 ∧ 1 < ((references' : (List (List (List (List Int))))).length : Int)) <| Rx.bind (F__predict_vector (fmt') ((((cT2 cI cI)).dec (motion'.2.2.2))) ((itD (references') (1))) plane' x' y' width' height') fun v3821 => .ok (v3821) else grd (((cT2 cI cI)).ok (motion'.2.2.1) = true) <| grd (-((references' : (List (List (List (List Int))))).length : Int) ≤ motion'.2.1 ∧ motion'.2.1 < ((references' : (List (List (List (List Int))))).length : Int)) <| Rx.bind (F__predict_vector (fmt') ((((cT2 cI cI)).dec (motion'.2.2.1))) ((itD (references') (motion'.2.1))) plane' x' y' width' height') fun v3856 => (if (motion'.1 : Int) = 0 then .ok (v3856) else grd (((cT2 cI cI)).ok (motion'.2.2.2) = true) <| grd (-((references' : (List (List (List (List Int))))).length : Int) ≤ 1 ∧ 1 < ((references' : (List (List (List (List Int))))).length : Int)) <| Rx.bind (F__predict_vector (fmt') ((((cT2 cI cI)).dec (motion'.2.2.2))) ((itD (references') (1))) plane' x' y' width' height') fun v3892 => Rx.bind (F__mixed (v3856) (v3892) header'.weight) fun v3913 => .ok (v3913)))

def F_law_c1 (script_3994 : (List Int)) (n_3995 : (List Int)) (it4032 : Int) : Rx (List (List (List Int))) :=
  Rx.bind (F__law_cell (script_3994) ((1 + it4032))) fun v4033 => Rx.bind (F__law_reference v4033 (n_3995)) fun v4034 => .ok v4034

def F_law_c2 (it4135 : (List (List (List Int)))) : Rx (List (List (List Int))) :=
  Rx.bind (F__law_copy (it4135)) fun v4136 => .ok v4136

def F_law_c4 (it4463 : (List Int)) : Rx (List Int) :=
  .ok it4463

def F_law_b3 (found_4217 : ((List Int) × Int × Int × Int)) (n_4218 : (List Int)) (header_4219 : St_PictureHeader) (fmt_4220 : St_Format) (references_4221 : (List (List (List (List Int))))) (kept_4222 : (List (List (List (List Int))))) (it4267 : Int) : Rx (Lp Unit Bool) :=
  Rx.bind (F__law_draws ((it4267 / 9)) ([3, 16, 16, 8, 8])) fun v4277 => grd (-((v4277 : (List Int)).length : Int) ≤ 0 ∧ 0 < ((v4277 : (List Int)).length : Int)) <| grd (-((n_4218 : (List Int)).length : Int) ≤ 3 ∧ 3 < ((n_4218 : (List Int)).length : Int)) <| grd (0 < ((1 + (2 * (if decide (0 < (itD (n_4218) (3))) = true then 1 else 0))) : Int)) <| bnd (((itD (v4277) (0)) % (1 + (2 * (if decide (0 < (itD (n_4218) (3))) = true then 1 else 0))))) fun plane_4289 => Rx.bind (F__law_coded (n_4218) plane_4289) fun v4290 => grd (-((v4277 : (List Int)).length : Int) ≤ 1 ∧ 1 < ((v4277 : (List Int)).length : Int)) <| grd (0 < (v4290.1 : Int)) <| bnd (((itD (v4277) (1)) % v4290.1)) fun x_4309 => grd (-((v4277 : (List Int)).length : Int) ≤ 2 ∧ 2 < ((v4277 : (List Int)).length : Int)) <| grd (0 < (v4290.2 : Int)) <| bnd (((itD (v4277) (2)) % v4290.2)) fun y_4312 => grd (-((v4277 : (List Int)).length : Int) ≤ 3 ∧ 3 < ((v4277 : (List Int)).length : Int)) <| grd (-((v4277 : (List Int)).length : Int) ≤ 4 ∧ 4 < ((v4277 : (List Int)).length : Int)) <| Rx.bind (F__law_motion it4267 found_4217.2.1 found_4217.2.2.1) fun v4327 => Rx.bind (F__law_predict (n_4218) found_4217.2.1 found_4217.2.2.2 (v4327) (kept_4222) plane_4289 ((x_4309, y_4312, (if (v4290.1 - x_4309) < (1 + (itD (v4277) (3))) then (v4290.1 - x_4309) else (1 + (itD (v4277) (3)))), (if (v4290.2 - y_4312) < (1 + (itD (v4277) (4))) then (v4290.2 - y_4312) else (1 + (itD (v4277) (4))))))) fun v4348 => Rx.bind (F_predict_motion (fmt_4220) (header_4219) (v4327) (references_4221) plane_4289 x_4309 y_4312 ((if (v4290.1 - x_4309) < (1 + (itD (v4277) (3))) then (v4290.1 - x_4309) else (1 + (itD (v4277) (3))))) ((if (v4290.2 - y_4312) < (1 + (itD (v4277) (4))) then (v4290.2 - y_4312) else (1 + (itD (v4277) (4)))))) fun v4367 => (if (v4367 : (List (List Int))) = v4348 then (if (references_4221 : (List (List (List (List Int))))) = kept_4222 then Rx.bind (mapA (v4348) [] (fun x => noEr (F_law_c4  x))) fun v4390 => grd (-((v4367 : (List (List Int))).length : Int) ≤ 0 ∧ 0 < ((v4367 : (List (List Int))).length : Int)) <| grd (-(((itD (v4367) (0)) : (List Int)).length : Int) ≤ 0 ∧ 0 < (((itD (v4367) (0)) : (List Int)).length : Int)) <| bnd (setL (v4367) (0) (setL ((itD (v4367) (0))) (0) ((-1)))) fun y4531 => grd (-((v4390 : (List (List Int))).length : Int) ≤ 0 ∧ 0 < ((v4390 : (List (List Int))).length : Int)) <| grd (-(((itD (v4390) (0)) : (List Int)).length : Int) ≤ 0 ∧ 0 < (((itD (v4390) (0)) : (List Int)).length : Int)) <| bnd (setL (v4390) (0) (setL ((itD (v4390) (0))) (0) ((-1)))) fun y4552 => (if (y4531 : (List (List Int))) = y4552 then (if (references_4221 : (List (List (List (List Int))))) = kept_4222 then .ok (.go ()) else .ok (.rt (false))) else .ok (.rt (false))) else .ok (.rt (false))) else .ok (.rt (false)))

def F_law_r3  : Rx Bool :=
  .ok (true)

def F_law (script' : (List Int)) : Rx Bool :=
  Rx.bind (F__law_cell (script') 0) fun v3932 => Rx.bind (F__law_inter v3932) fun v3933 => Rx.bind (F__law_header (v3933.1) v3933.2.1 v3933.2.2.1 v3933.2.2.2) fun v3955 => grd (-((v3933.1 : (List Int)).length : Int) ≤ 0 ∧ 0 < ((v3933.1 : (List Int)).length : Int)) <| grd (-((v3933.1 : (List Int)).length : Int) ≤ 1 ∧ 1 < ((v3933.1 : (List Int)).length : Int)) <| grd (-((v3933.1 : (List Int)).length : Int) ≤ 2 ∧ 2 < ((v3933.1 : (List Int)).length : Int)) <| grd (-((v3933.1 : (List Int)).length : Int) ≤ 3 ∧ 3 < ((v3933.1 : (List Int)).length : Int)) <| Rx.bind (F_Format___init__ ((itD (v3933.1) (0))) ((itD (v3933.1) (1))) ((itD (v3933.1) (2))) ((itD (v3933.1) (3)))) fun v3988 => grd (-(2 ^ 62) ≤ (v3933.2.2.1 : Int) ∧ (v3933.2.2.1 : Int) < 2 ^ 62) <| Rx.bind (mapA (rng (0) (Int.toNat (v3933.2.2.1))) [] (fun x => noEr (F_law_c1 (script') (v3933.1) x))) fun v3996 => Rx.bind (mapA (v3996) [] (fun x => noEr (F_law_c2  x))) fun v4075 => grd (([0]).length + (cutL (script') (some (3)) none).length ≤ 1000000) <| Rx.bind (forR (cutL (([0]) ++ (cutL (script') (some (3)) none)) none (some (4))) () (fun s x => F_law_b3 (v3933) (v3933.1) (v3955) (v3988) (v3996) (v4075)  x)) fun l => l.aft Rx.ok fun s => F_law_r3  
theorem cell_gv (s : List Int) (k : Int) (h : 0 ≤ k) : Gv (F__law_cell s k) (fun _ => True) := by
  unfold F__law_cell
  exact Gv.ite (fun c => Gv.grd ⟨by omega, c⟩ (.ok trivial)) fun _ => .ok trivial
def Inb : List Int → List Int → Prop
  | [], [] => True
  | v :: vs, l :: ls => 0 ≤ v ∧ v < l ∧ Inb vs ls
  | _, _ => False
theorem Inb.snoc : ∀ {vs ls : List Int} {y l : Int}, Inb vs ls → 0 ≤ y → y < l → Inb (vs ++ [y]) (ls ++ [l])
  | [], [], _, _, _, h0, h1 => ⟨h0, h1, trivial⟩
  | _ :: _, _ :: _, _, _, h, h0, h1 => ⟨h.1, h.2.1, Inb.snoc h.2.2 h0 h1⟩
  | [], _ :: _, _, _, h, _, _ => h.elim
  | _ :: _, [], _, _, h, _, _ => h.elim
theorem Inb.len : ∀ {vs ls : List Int}, Inb vs ls → vs.length = ls.length
  | [], [], _ => rfl
  | _ :: _, _ :: _, h => congrArg Nat.succ (Inb.len h.2.2)
  | [], _ :: _, h => h.elim
  | _ :: _, [], h => h.elim
theorem Inb.cons {v ls : List Int} {l : Int} (h : Inb v (l :: ls)) : ∃ a r, v = a :: r ∧ 0 ≤ a ∧ a < l ∧ Inb r ls := by
  cases v with
  | nil => exact h.elim
  | cons a r => exact ⟨a, r, rfl, h.1, h.2.1, h.2.2⟩
theorem Inb.nil {v : List Int} (h : Inb v []) : v = [] := by
  cases v with
  | nil => rfl
  | cons a r => exact h.elim
theorem draws_gv (cell : Int) (limits : List Int) (hl : ∀ l ∈ limits, 0 < l ∧ l < 18446744073709551616) (hn : limits.length ≤ 1000000) : Gv (F__law_draws cell limits) (fun v => Inb v limits) := by
  unfold F__law_draws
  refine Gv.bnd fun rest _ => Gv.bnd fun state _ => Gv.bnd fun free _ => Gv.bind (Gv.forS (P := fun i s => Inb s.1 (limits.take i)) ?_ fun i x s hx p => ?_) fun s p => .ok ?_
  · rw [List.take_zero]
    trivial
  · have hb0 := hl x (List.mem_of_getElem? hx)
    have hb : 0 < x ∧ x < 2 ^ 128 := ⟨hb0.1, by omega⟩
    have hlen := p.len
    have hi := get_len hx
    rw [List.length_take] at hlen
    have nx : ∀ y : Int, 0 ≤ y → y < x → Inb (s.1 ++ [y]) (limits.take (i + 1)) := fun y h0 h1 => by
      rw [take_succ_get hx]
      exact p.snoc h0 h1
    unfold F__law_draws_b1
    refine Gv.ite (fun _ => Gv.ite (fun _ => Gv.grd hb.1 (Gv.grd (by omega) (Gv.bnd fun y hy => Gv.grd ⟨hb.1, hb.2⟩ (Gv.bnd fun _ _ => .ok ?_)))) fun _ => Gv.bnd fun _ _ => Gv.bnd fun _ _ => Gv.grd hb.1 (Gv.grd (by omega) (Gv.bnd fun y hy => .ok ?_))) fun _ => Gv.bnd fun _ _ => Gv.bnd fun _ _ => Gv.grd hb.1 (Gv.grd (by omega) (Gv.bnd fun y hy => .ok ?_))
    · subst hy
      exact nx _ (Int.emod_nonneg _ (by omega)) (Int.emod_lt_of_pos _ hb.1)
    · subst hy
      exact nx _ (Int.emod_nonneg _ (by omega)) (Int.emod_lt_of_pos _ hb.1)
    · subst hy
      exact nx _ (Int.emod_nonneg _ (by omega)) (Int.emod_lt_of_pos _ hb.1)
  · rw [List.take_length] at p
    exact p
theorem ixg {xs : List Int} {k : Int} {n : Nat} (e : xs.length = n) (h : -(n : Int) ≤ k ∧ k < n) : -(xs.length : Int) ≤ k ∧ k < xs.length := by
  rw [e]
  exact h
theorem itD_lit {xs : List Int} {a k : Int} (n : Nat) (e : k = (n : Int)) (h : xs[n]? = some a) : itD xs k = a := by
  subst e
  have hl := get_len h
  unfold itD atI ixN
  rw [if_pos (by omega), if_pos (by omega)]
  show (xs[n]?).getD default = a
  rw [h]
  rfl
theorem itD_some {α : Type} [Inhabited α] {xs : List α} {k : Int} (h : -(xs.length : Int) ≤ k ∧ k < xs.length) : ∃ j : Nat, xs[j]? = some (itD xs k) := by
  obtain ⟨j, e, hj⟩ := ixN_some h
  refine ⟨j, ?_⟩
  unfold itD atI
  rw [e, List.getElem?_eq_getElem hj]
  show some xs[j] = some ((xs[j]?).getD default)
  rw [List.getElem?_eq_getElem hj] <;> rfl
theorem itD_mem {α : Type} [Inhabited α] {xs : List α} {k : Int} (h : -(xs.length : Int) ≤ k ∧ k < xs.length) : itD xs k ∈ xs := by
  obtain ⟨j, e⟩ := itD_some h
  exact List.mem_of_getElem? e
theorem itD_map {α β : Type} [Inhabited α] [Inhabited β] {xs : List α} {f : α → β} {k : Int} (h : -(xs.length : Int) ≤ k ∧ k < xs.length) : itD (xs.map f) k = f (itD xs k) := by
  obtain ⟨j, e, hj⟩ := ixN_some h
  unfold itD atI
  rw [List.length_map, e]
  show ((xs.map f)[j]?).getD default = f ((xs[j]?).getD default)
  rw [List.getElem?_map, List.getElem?_eq_getElem hj] <;> rfl
theorem itD_nat {α : Type} [Inhabited α] {xs : List α} {k : Int} {j : Nat} (e : k = (j : Int)) (h : j < xs.length) : itD xs k = xs[j] := by
  subst e
  unfold itD atI ixN
  rw [if_pos (by omega), if_pos (by omega)]
  show (xs[j]?).getD default = _
  rw [List.getElem?_eq_getElem h] <;> rfl
theorem setL_mem {α : Type} {xs : List α} {k : Int} {y z : α} (h : z ∈ setL xs k y) : z ∈ xs ∨ z = y := by
  unfold setL at h
  exact List.mem_or_eq_of_mem_set h
theorem setL_len {α : Type} {xs : List α} {k : Int} {y : α} : (setL xs k y).length = xs.length := by
  unfold setL
  rw [List.length_set]
theorem between_gv (f s lo hi : Int) (h : lo ≤ hi) : Gv (F__law_between f s lo hi) (fun v => lo ≤ v ∧ v ≤ hi) := by
  unfold F__law_between
  refine Gv.ite (fun _ => .ok (by omega)) fun _ => Gv.ite (fun _ => .ok (by omega)) fun _ => Gv.ite (fun _ => .ok ?_) fun _ => Gv.grd (by omega) (.ok ?_)
  · split <;> omega
  · have a := Int.emod_nonneg s (show hi - lo + 1 ≠ 0 by omega)
    have b := Int.emod_lt_of_pos s (show 0 < hi - lo + 1 by omega)
    omega
/-! planes, samples between samples -/
theorem mask2 (x : Int) : PySem.Builtin.bitAnd x 3 = x % 4 := by
  by_cases h : 0 ≤ x
  · rw [PyProof.Rows.bitAnd_pp h (by decide)]
    have e : x.toNat &&& (3 : Int).toNat = x.toNat % 4 := Nat.and_two_pow_sub_one_eq_mod x.toNat 2
    rw [e]; omega
  · rw [PyProof.Rows.bitAnd_np h (by decide), Nat.and_comm]
    have e : (PySem.Builtin.bitNot x).toNat &&& (3 : Int).toNat = (PySem.Builtin.bitNot x).toNat % 4 := Nat.and_two_pow_sub_one_eq_mod _ 2
    rw [e]; unfold PySem.Builtin.bitNot; omega
theorem mask3 (x : Int) : PySem.Builtin.bitAnd x 7 = x % 8 := by
  by_cases h : 0 ≤ x
  · rw [PyProof.Rows.bitAnd_pp h (by decide)]
    have e : x.toNat &&& (7 : Int).toNat = x.toNat % 8 := Nat.and_two_pow_sub_one_eq_mod x.toNat 3
    rw [e]; omega
  · rw [PyProof.Rows.bitAnd_np h (by decide), Nat.and_comm]
    have e : (PySem.Builtin.bitNot x).toNat &&& (7 : Int).toNat = (PySem.Builtin.bitNot x).toNat % 8 := Nat.and_two_pow_sub_one_eq_mod _ 3
    rw [e]; unfold PySem.Builtin.bitNot; omega
/-! ### tables -/
section
variable {α : Type}
theorem rng_map_get {f : Int → α} {a : Int} {n i : Nat} (h : i < n) : ((rng a n).map f)[i]? = some (f (a + i)) := by rw [List.getElem?_map, rng_get h]; rfl
theorem rng_map_ext {f g : Int → α} {a b : Int} {n : Nat} (h : ∀ i : Nat, i < n → f (a + i) = g (b + i)) : (rng a n).map f = (rng b n).map g := by
  apply List.ext_getElem?
  intro i
  by_cases hi : i < n
  · rw [rng_map_get hi, rng_map_get hi, h i hi]
  · rw [List.getElem?_eq_none (by rw [List.length_map, rng_len]; omega), List.getElem?_eq_none (by rw [List.length_map, rng_len]; omega)]
theorem rng_map_itD [Inhabited α] {f : Int → α} {a k : Int} {n : Nat} (h0 : 0 ≤ k) (h1 : k < n) : itD ((rng a n).map f) k = f (a + k) := by
  obtain ⟨j, rfl⟩ : ∃ j : Nat, k = (j : Int) := ⟨k.toNat, by omega⟩
  have hl : j < ((rng a n).map f).length := by rw [List.length_map, rng_len]; omega
  have := rng_map_get (f := f) (a := a) (n := n) (i := j) (by omega)
  unfold itD
  rw [atI_nat this]
  rfl
theorem sIx_at {n d : Nat} {v : Int} (h0 : 0 ≤ v) (h1 : v ≤ n) : HT.sIx n d (some v) = v.toNat := by
  show (if v < 0 then (v + (n : Int)).toNat else min v.toNat n) = v.toNat
  rw [if_neg (by omega)]
  omega
theorem cut_tab {f : Int → α} {a s : Int} {n k : Nat} (h0 : 0 ≤ s) (h1 : s + k ≤ n) : cutL ((rng a n).map f) (some s) (some (s + k)) = (rng (a + s) k).map f := by
  have hl : ((rng a n).map f).length = n := by rw [List.length_map, rng_len]
  unfold cutL
  rw [hl, sIx_at h0 (by omega), sIx_at (by omega) h1]
  apply List.ext_getElem?
  intro i
  by_cases hi : i < k
  · rw [List.getElem?_take_of_lt (by omega), List.getElem?_drop, rng_map_get (by omega), rng_map_get hi]
    congr 2
    omega
  · rw [List.getElem?_eq_none (by rw [List.length_take, List.length_drop, hl]; omega), List.getElem?_eq_none (by rw [List.length_map, rng_len]; omega)]
theorem cut_tab1 {f : Int → α} {a : Int} {n : Nat} : cutL ((rng a (n + 1)).map f) (some 1) none = (rng (a + 1) n).map f := by
  have hl : ((rng a (n + 1)).map f).length = n + 1 := by rw [List.length_map, rng_len]
  unfold cutL
  rw [hl, sIx_at (by decide) (by omega), HT.sIx_none]
  apply List.ext_getElem?
  intro i
  by_cases hi : i < n
  · rw [List.getElem?_take_of_lt (by show i < n + 1 - 1; omega), List.getElem?_drop, rng_map_get (by show 1 + i < n + 1; omega), rng_map_get hi]
    congr 2
    show a + ((1 + i : Nat) : Int) = a + 1 + i
    omega
  · rw [List.getElem?_eq_none (by rw [List.length_take, List.length_drop, hl]; show min (n + 1 - 1) (n + 1 - 1) ≤ i; omega), List.getElem?_eq_none (by rw [List.length_map, rng_len]; omega)]
theorem zip_tab {f : Int → α} {a : Int} {n : Nat} : List.zip ((rng a (n + 1)).map f) (cutL ((rng a (n + 1)).map f) (some 1) none) = (rng a n).map fun c => (f c, f (c + 1)) := by
  rw [cut_tab1]
  apply List.ext_getElem?
  intro i
  by_cases hi : i < n
  · rw [rng_map_get hi]
    refine List.getElem?_zip_eq_some.mpr ⟨rng_map_get (by omega), ?_⟩
    rw [rng_map_get hi]
    congr 2
    omega
  · rw [List.getElem?_eq_none (by rw [List.length_zip, List.length_map, List.length_map, rng_len, rng_len]; omega), List.getElem?_eq_none (by rw [List.length_map, rng_len]; omega)]
theorem zip_tab2 {β : Type} {f : Int → α} {g : Int → β} {a : Int} {n : Nat} : List.zip ((rng a n).map f) ((rng a n).map g) = (rng a n).map fun c => (f c, g c) := by
  apply List.ext_getElem?
  intro i
  by_cases hi : i < n
  · rw [rng_map_get hi]
    exact List.getElem?_zip_eq_some.mpr ⟨rng_map_get hi, rng_map_get hi⟩
  · rw [List.getElem?_eq_none (by rw [List.length_zip, List.length_map, List.length_map, rng_len]; omega), List.getElem?_eq_none (by rw [List.length_map, rng_len]; omega)]
end
theorem itDn {α : Type} [Inhabited α] {xs : List α} {j : Nat} (h : j < xs.length) : itD xs (j : Int) = xs[j] := itD_nat rfl h
theorem zip_rows {u : Int → Int → Int} {a b : Int} {n k : Nat} (hk : 0 < k) : zipRows ((rng a k).map fun s => (rng b n).map fun c => u s c) = (rng b n).map fun c => (rng a k).map fun s => u s c := by
  have hne : ((rng a k).map fun s => (rng b n).map fun c => u s c) ≠ [] := by
    intro z
    have := congrArg List.length z
    rw [List.length_map, rng_len] at this
    simp at this
    omega
  have hm : minLen ((rng a k).map fun s => (rng b n).map fun c => u s c) = n := by
    obtain ⟨x, hx, e⟩ := minLen_at hne
    obtain ⟨s, _, rfl⟩ := List.mem_map.mp hx
    rw [← e, List.length_map, rng_len]
  apply List.ext_getElem?
  intro i
  by_cases hi : i < n
  · rw [zipRows_get (by rw [hm]; exact hi), rng_map_get hi]
    congr 1
    unfold colOf
    rw [List.map_map]
    apply List.map_congr_left
    intro s _
    show itD ((rng b n).map fun c => u s c) (i : Int) = u s (b + i)
    rw [rng_map_itD (by omega) (by omega)]
  · rw [List.getElem?_eq_none (by rw [zipRows_len, hm]; omega), List.getElem?_eq_none (by rw [List.length_map, rng_len]; omega)]
/-- a loop that makes a list item by item -/
theorem forS_list {α β : Type} {xs : List α} {f : List β → α → Rx (List β)} {g : α → β} (h : ∀ s x, x ∈ xs → s.length ≤ 1000000 → f s x = .ok (s ++ [g x])) : ∀ acc : List β, acc.length + xs.length ≤ 1000000 → forS xs acc f = .ok (acc ++ xs.map g) := by
  induction xs with
  | nil => intro acc _; simp [forS]
  | cons x r ih =>
    intro acc hl
    rw [List.length_cons] at hl
    show (f acc x).bind _ = _
    rw [h acc x List.mem_cons_self (by omega), bind_ok, ih (fun s y hy => h s y (List.mem_cons_of_mem _ hy)) (acc ++ [g x]) (by rw [List.length_append, List.length_cons, List.length_nil]; omega)]
    simp
/-! ### a plane -/
def Pl (w h top : Int) (M : List (List Int)) : Prop := 1 ≤ w ∧ 1 ≤ h ∧ (M.length : Int) = h ∧ (∀ r ∈ M, (r.length : Int) = w) ∧ ∀ r ∈ M, ∀ x ∈ r, 0 ≤ x ∧ x ≤ top
def cl (v hi : Int) : Int := if hi < (if 0 > v then 0 else v) then hi else (if 0 > v then 0 else v)
theorem cl_in {v hi : Int} (h : 0 ≤ hi) : 0 ≤ cl v hi ∧ cl v hi ≤ hi := by
  unfold cl
  split <;> split <;> omega
theorem cl_id {v hi : Int} (h0 : 0 ≤ v) (h1 : v ≤ hi) : cl v hi = v := by
  unfold cl
  rw [if_neg (show ¬ 0 > v by omega), if_neg (by omega)]
def val (w h : Int) (M : List (List Int)) (x y : Int) : Int := itD (itD M (cl y (h - 1))) (cl x (w - 1))
section
variable {w h top : Int} {M : List (List Int)}
theorem Pl.row (p : Pl w h top M) {y : Int} (h0 : 0 ≤ y) (h1 : y < h) : ((itD M y).length : Int) = w := by
  obtain ⟨_, _, hl, hr, _⟩ := p
  exact hr _ (itD_mem (by rw [hl]; omega))
theorem Pl.val (p : Pl w h top M) (x y : Int) : 0 ≤ val w h M x y ∧ val w h M x y ≤ top := by
  have h1 := cl_in (v := y) (hi := h - 1) (by have := p.2.1; omega)
  have h2 := cl_in (v := x) (hi := w - 1) (by have := p.1; omega)
  have hr := p.row (y := cl y (h - 1)) h1.1 (by omega)
  exact p.2.2.2.2 _ (itD_mem (by rw [p.2.2.1]; omega)) _ (itD_mem (by rw [hr]; omega))
theorem at_eq (p : Pl w h top M) (x y : Int) : F__law_at M x y = .ok (val w h M x y) := by
  have h1 := cl_in (v := y) (hi := h - 1) (by have := p.2.1; omega)
  have h2 := cl_in (v := x) (hi := w - 1) (by have := p.1; omega)
  have hr := p.row (y := cl y (h - 1)) h1.1 (by omega)
  have hM := p.2.2.1
  refine Gv.get ?_
  unfold F__law_at
  unfold cl at hr h1 h2
  rw [hM, hr]
  exact Gv.grd (by omega) (Gv.grd (by omega) (.ok rfl))
theorem samples_eq (p : Pl w h top M) {x y W H : Int} (hx : -1000000 ≤ x ∧ x ≤ 1000000) (hy : -1000000 ≤ y ∧ y ≤ 1000000) (hW : 0 ≤ W ∧ W ≤ 1000) (hH : 0 ≤ H ∧ H ≤ 1000) :
    F__samples M x y W H = .ok ((rng y H.toNat).map fun r => (rng x W.toNat).map fun c => val w h M c r) := by
  have hp := p
  obtain ⟨hw, hh, hM, hrow, _⟩ := p
  have r0 := hp.row (y := 0) (by decide) (by omega)
  refine Gv.get ?_
  unfold F__samples
  rw [show x + W - x = W by omega, show y + H - y = H by omega]
  refine Gv.grd ⟨by omega, by omega, by omega, by omega⟩ (Gv.bind_eq (mapA_pure0 (g := fun c => cl c (w - 1)) (fun c _ => ?_) (by rw [rng_len]; omega)) (Gv.grd ⟨by omega, by omega, by omega, by omega⟩ (Gv.bind_eq (mapA_pure0 (g := fun r => cl r (h - 1)) (fun r _ => ?_) (by rw [rng_len]; omega)) (Gv.bind_eq (mapA_pure0 (g := fun r => ((rng x W.toNat).map fun c => cl c (w - 1)).map fun c => itD (itD M r) c) (fun r hr => ?_) (by rw [List.length_map, rng_len]; omega)) (.ok ?_)))))
  · unfold F__samples_c1
    rw [grd_pos (by omega), r0]
    rfl
  · unfold F__samples_c2
    rw [hM]
    rfl
  · obtain ⟨r', _, rfl⟩ := List.mem_map.mp hr
    have h1 := cl_in (v := r') (hi := h - 1) (by omega)
    unfold F__samples_c3
    rw [mapA_pure0 (f := fun c => noEr (F__samples_c4 M (cl r' (h - 1)) c)) (g := fun c => itD (itD M (cl r' (h - 1))) c) (fun c hc => ?_) (by rw [List.length_map, rng_len]; omega)]
    · rfl
    · obtain ⟨c', _, rfl⟩ := List.mem_map.mp hc
      have h2 := cl_in (v := c') (hi := w - 1) (by omega)
      unfold F__samples_c4
      rw [grd_pos (by rw [hM]; omega), grd_pos (by rw [hp.row h1.1 (by omega)]; omega)]
      rfl
  · rw [List.map_map]
    apply List.map_congr_left
    intro r _
    show ((rng x W.toNat).map fun c => cl c (w - 1)).map (fun c => itD (itD M (cl r (h - 1))) c) = _
    rw [List.map_map]
    rfl
end
/-! ### six weights -/
def dot (ws v : List Int) : Int := (((((itD ws 0 * itD v 0) + (itD ws 1 * itD v 1)) + (itD ws 2 * itD v 2)) + (itD ws 3 * itD v 3)) + (itD ws 4 * itD v 4)) + (itD ws 5 * itD v 5)
def WT : List (List Int) := [[0, 0, 64, 0, 0, 0], [1, -5, 52, 20, -5, 1], [2, -10, 40, 40, -10, 2], [1, -5, 20, 52, -5, 1]]
theorem wt_facts {k : Int} (h0 : 0 ≤ k) (h1 : k < 4) : (itD WT k).length = 6 ∧ ∀ j : Int, 0 ≤ j → j < 6 → -100 ≤ itD (itD WT k) j ∧ itD (itD WT k) j ≤ 100 := by
  have hm : itD WT k ∈ WT := itD_mem (by show -(4 : Int) ≤ k ∧ k < 4; omega)
  have key : ∀ r ∈ WT, r.length = 6 ∧ ∀ x ∈ r, -100 ≤ x ∧ x ≤ 100 := by decide
  obtain ⟨a, b⟩ := key _ hm
  exact ⟨a, fun j j0 j1 => b _ (itD_mem (by rw [a]; omega))⟩
theorem sixes (v : Int → Int) : (rng 0 6).map v = [v 0, v 1, v 2, v 3, v 4, v 5] := rfl
theorem weighted_eq {k : Int} (h0 : 0 ≤ k) (h1 : k < 4) {u : Int → Int → Int} {a b : Int} {n : Nat} (hn : n ≤ 1000) : F__weighted (itD WT k) ((rng a 6).map fun s => (rng b n).map fun c => u s c) = .ok ((rng b n).map fun c => dot (itD WT k) ((rng a 6).map fun s => u s c)) := by
  obtain ⟨hl, hb⟩ := wt_facts h0 h1
  refine Gv.get ?_
  unfold F__weighted
  refine Gv.bind_eq (a := (itD (itD WT k) 0, itD (itD WT k) 1, itD (itD WT k) 2, itD (itD WT k) 3, itD (itD WT k) 4, itD (itD WT k) 5)) (by rw [grd_pos hl]; rfl) ?_
  show Gv (F__weighted_k1 _ (itD (itD WT k) 0) (itD (itD WT k) 1) (itD (itD WT k) 2) (itD (itD WT k) 3) (itD (itD WT k) 4) (itD (itD WT k) 5)) _
  unfold F__weighted_k1
  refine Gv.grd (by rw [List.length_map, rng_len]; simp) (Gv.bind_eq (mapA_pure0 (g := fun v => dot (itD WT k) v) (fun v hv => ?_) ?_) (.ok ?_))
  · rw [zip_rows (by decide)] at hv
    obtain ⟨c, _, rfl⟩ := List.mem_map.mp hv
    have b0 := hb 0 (by decide) (by decide)
    have b1 := hb 1 (by decide) (by decide)
    have b2 := hb 2 (by decide) (by decide)
    have b3 := hb 3 (by decide) (by decide)
    have b4 := hb 4 (by decide) (by decide)
    have b5 := hb 5 (by decide) (by decide)
    unfold F__weighted_c2
    rw [grd_pos (by rw [List.length_map, rng_len]), grd_pos (.inl ⟨by omega, by omega⟩), grd_pos (.inl ⟨by omega, by omega⟩), grd_pos (.inl ⟨by omega, by omega⟩), grd_pos (.inl ⟨by omega, by omega⟩), grd_pos (.inl ⟨by omega, by omega⟩), grd_pos (.inl ⟨by omega, by omega⟩)]
    rfl
  · rw [zip_rows (by decide), List.length_map, rng_len]; omega
  · rw [zip_rows (by decide), List.map_map]
    rfl
/-- across a row, at column c -/
def hs (w h : Int) (M : List (List Int)) (f c r : Int) : Int := dot (itD WT f) ((rng 0 6).map fun s => val w h M (c + s) r)
/-- the value at a position in quarters -/
def qv (w h top : Int) (M : List (List Int)) (x y : Int) : Int := cl ((dot (itD WT (y % 4)) ((rng 0 6).map fun t => hs w h M (x % 4) (x / 4 - 2) (y / 4 - 2 + t)) + 2048) / 4096) top
theorem qv_zero {w h top : Int} {M : List (List Int)} (p : Pl w h top M) {x y : Int} (hx : x % 4 = 0) (hy : y % 4 = 0) : qv w h top M x y = val w h M (x / 4) (y / 4) := by
  have hv := p.val (x / 4) (y / 4)
  unfold qv hs
  rw [hx, hy]
  have e : dot (itD WT 0) ((rng 0 6).map fun t => dot (itD WT 0) ((rng 0 6).map fun s => val w h M (x / 4 - 2 + s) (y / 4 - 2 + t))) = 4096 * val w h M (x / 4) (y / 4) := by
    rw [sixes]
    simp only [sixes]
    show (((((0 * _) + (0 * _)) + (64 * ((((((0 * _) + (0 * _)) + (64 * val w h M (x / 4 - 2 + 2) (y / 4 - 2 + 2))) + (0 * _)) + (0 * _)) + (0 * _)))) + (0 * _)) + (0 * _)) + (0 * _) = _
    rw [show x / 4 - 2 + 2 = x / 4 by omega, show y / 4 - 2 + 2 = y / 4 by omega]
    omega
  rw [e]
  rw [show (4096 * val w h M (x / 4) (y / 4) + 2048) / 4096 = val w h M (x / 4) (y / 4) by omega]
  exact cl_id hv.1 hv.2
section
variable {w h top : Int} {M : List (List Int)}
theorem quarter_law (p : Pl w h top M) (x y : Int) : F__law_quarter M x y top = .ok (qv w h top M x y) := by
  have hx : 0 ≤ x % 4 ∧ x % 4 < 4 := by omega
  have hy : 0 ≤ y % 4 ∧ y % 4 < 4 := by omega
  obtain ⟨la, ba⟩ := wt_facts hx.1 hx.2
  obtain ⟨ld, bd⟩ := wt_facts hy.1 hy.2
  refine Gv.get ?_
  unfold F__law_quarter
  rw [mask2, mask2]
  change Gv (grd (-(4 : Int) ≤ x % 4 ∧ x % 4 < 4) <| grd (-(4 : Int) ≤ y % 4 ∧ y % 4 < 4) <| bnd (x / 4 - 2) fun i => bnd (y / 4 - 2) fun j => Rx.bind (forS (rng 0 6) 2048 (fun s t => F__law_quarter_b1 M (itD WT (x % 4)) (itD WT (y % 4)) i j s t)) fun s => F__law_quarter_r1 top s) _
  refine Gv.grd (by omega) (Gv.grd (by omega) (Gv.bnd fun i hi => Gv.bnd fun j hj => ?_))
  subst hi hj
  refine Gv.bind_eq (forS_pure (g := fun s t => s + itD (itD WT (y % 4)) t * hs w h M (x % 4) (x / 4 - 2) (y / 4 - 2 + t)) fun s t ht => ?_) (.ok ?_)
  · have ht := rng_mem ht
    have bt := bd t (by omega) (by omega)
    refine Gv.get ?_
    unfold F__law_quarter_b1
    refine Gv.grd (by rw [ld]; omega) (Gv.ite (fun c => .ok ?_) fun c => Gv.grd (by rw [ld]; omega) (Gv.bind_eq (mapA_pure0 (g := fun q => itD (itD WT (x % 4)) q * val w h M (x / 4 - 2 + q) (y / 4 - 2 + t)) (fun q hq => ?_) (by decide)) (Gv.grd (.inl ⟨by omega, by omega⟩) (Gv.bnd fun z hz => .ok ?_))))
    · rw [c, Int.zero_mul, Int.add_zero]
    · have hq := rng_mem hq
      have bq := ba q (by omega) (by omega)
      unfold F__law_quarter_c2
      rw [grd_pos (by rw [la]; omega), at_eq p, bind_ok, grd_pos (.inl ⟨by omega, by omega⟩)]
      rfl
    · subst hz
      congr 2
      show List.sum ((rng 0 6).map _) = hs w h M (x % 4) (x / 4 - 2) (y / 4 - 2 + t)
      unfold hs
      rw [sixes, sixes]
      unfold dot
      simp only [List.sum_cons, List.sum_nil]
      rw [show itD [val w h M (x / 4 - 2 + 0) (y / 4 - 2 + t), val w h M (x / 4 - 2 + 1) (y / 4 - 2 + t), val w h M (x / 4 - 2 + 2) (y / 4 - 2 + t), val w h M (x / 4 - 2 + 3) (y / 4 - 2 + t), val w h M (x / 4 - 2 + 4) (y / 4 - 2 + t), val w h M (x / 4 - 2 + 5) (y / 4 - 2 + t)] 0 = val w h M (x / 4 - 2 + 0) (y / 4 - 2 + t) from rfl,
        show itD [val w h M (x / 4 - 2 + 0) (y / 4 - 2 + t), val w h M (x / 4 - 2 + 1) (y / 4 - 2 + t), val w h M (x / 4 - 2 + 2) (y / 4 - 2 + t), val w h M (x / 4 - 2 + 3) (y / 4 - 2 + t), val w h M (x / 4 - 2 + 4) (y / 4 - 2 + t), val w h M (x / 4 - 2 + 5) (y / 4 - 2 + t)] 1 = val w h M (x / 4 - 2 + 1) (y / 4 - 2 + t) from rfl,
        show itD [val w h M (x / 4 - 2 + 0) (y / 4 - 2 + t), val w h M (x / 4 - 2 + 1) (y / 4 - 2 + t), val w h M (x / 4 - 2 + 2) (y / 4 - 2 + t), val w h M (x / 4 - 2 + 3) (y / 4 - 2 + t), val w h M (x / 4 - 2 + 4) (y / 4 - 2 + t), val w h M (x / 4 - 2 + 5) (y / 4 - 2 + t)] 2 = val w h M (x / 4 - 2 + 2) (y / 4 - 2 + t) from rfl,
        show itD [val w h M (x / 4 - 2 + 0) (y / 4 - 2 + t), val w h M (x / 4 - 2 + 1) (y / 4 - 2 + t), val w h M (x / 4 - 2 + 2) (y / 4 - 2 + t), val w h M (x / 4 - 2 + 3) (y / 4 - 2 + t), val w h M (x / 4 - 2 + 4) (y / 4 - 2 + t), val w h M (x / 4 - 2 + 5) (y / 4 - 2 + t)] 3 = val w h M (x / 4 - 2 + 3) (y / 4 - 2 + t) from rfl,
        show itD [val w h M (x / 4 - 2 + 0) (y / 4 - 2 + t), val w h M (x / 4 - 2 + 1) (y / 4 - 2 + t), val w h M (x / 4 - 2 + 2) (y / 4 - 2 + t), val w h M (x / 4 - 2 + 3) (y / 4 - 2 + t), val w h M (x / 4 - 2 + 4) (y / 4 - 2 + t), val w h M (x / 4 - 2 + 5) (y / 4 - 2 + t)] 4 = val w h M (x / 4 - 2 + 4) (y / 4 - 2 + t) from rfl,
        show itD [val w h M (x / 4 - 2 + 0) (y / 4 - 2 + t), val w h M (x / 4 - 2 + 1) (y / 4 - 2 + t), val w h M (x / 4 - 2 + 2) (y / 4 - 2 + t), val w h M (x / 4 - 2 + 3) (y / 4 - 2 + t), val w h M (x / 4 - 2 + 4) (y / 4 - 2 + t), val w h M (x / 4 - 2 + 5) (y / 4 - 2 + t)] 5 = val w h M (x / 4 - 2 + 5) (y / 4 - 2 + t) from rfl]
      omega
  · show cl (_ / 4096) top = _
    unfold qv
    congr 2
    rw [sixes]
    unfold dot
    show (((((2048 + itD (itD WT (y % 4)) 0 * hs w h M (x % 4) (x / 4 - 2) (y / 4 - 2 + 0)) + itD (itD WT (y % 4)) 1 * hs w h M (x % 4) (x / 4 - 2) (y / 4 - 2 + 1)) + itD (itD WT (y % 4)) 2 * hs w h M (x % 4) (x / 4 - 2) (y / 4 - 2 + 2)) + itD (itD WT (y % 4)) 3 * hs w h M (x % 4) (x / 4 - 2) (y / 4 - 2 + 3)) + itD (itD WT (y % 4)) 4 * hs w h M (x % 4) (x / 4 - 2) (y / 4 - 2 + 4)) + itD (itD WT (y % 4)) 5 * hs w h M (x % 4) (x / 4 - 2) (y / 4 - 2 + 5)
      = ((((((itD (itD WT (y % 4)) 0 * hs w h M (x % 4) (x / 4 - 2) (y / 4 - 2 + 0)) + (itD (itD WT (y % 4)) 1 * hs w h M (x % 4) (x / 4 - 2) (y / 4 - 2 + 1))) + (itD (itD WT (y % 4)) 2 * hs w h M (x % 4) (x / 4 - 2) (y / 4 - 2 + 2))) + (itD (itD WT (y % 4)) 3 * hs w h M (x % 4) (x / 4 - 2) (y / 4 - 2 + 3))) + (itD (itD WT (y % 4)) 4 * hs w h M (x % 4) (x / 4 - 2) (y / 4 - 2 + 4))) + (itD (itD WT (y % 4)) 5 * hs w h M (x % 4) (x / 4 - 2) (y / 4 - 2 + 5))) + 2048
    omega
/-! ### areas -/
theorem sums_eq {f X r0 : Int} {W H : Nat} (hf : 0 ≤ f ∧ f < 4) (hW : W ≤ 900) (hH : H ≤ 900) {b : List (List Int) → List Int → Rx (List (List Int))} (hb : ∀ s x, b s x = (grd ((0 : Int) ≤ f ∧ f < 4) <| Rx.bind (mapA (rng 0 6) [] (fun q => noEr (.ok (cutL x (some q) (some (q + (W : Int))))))) fun v => Rx.bind (F__weighted (itD WT f) v) fun v2 => grd (s.length ≤ 1000000) <| bnd (s ++ [v2]) fun y => .ok y)) :
    forS ((rng r0 H).map fun r => (rng X (W + 5)).map fun c => val w h M c r) [] b = .ok ((rng r0 H).map fun r => (rng X W).map fun c => hs w h M f c r) := by
  rw [forS_list (g := fun row => (rng 0 W).map fun c => dot (itD WT f) ((rng 0 6).map fun s => itD row (c + s))) (fun s x hx hs2 => ?_) [] (by rw [List.length_map, rng_len]; simp; omega)]
  · rw [List.nil_append, List.map_map]
    congr 1
    apply List.map_congr_left
    intro r _
    show (rng 0 W).map _ = (rng X W).map _
    refine rng_map_ext fun i hi => ?_
    show dot _ ((rng 0 6).map _) = dot _ ((rng 0 6).map _)
    congr 1
    apply List.map_congr_left
    intro s hs1
    have hs1 := rng_mem hs1
    rw [rng_map_itD (by omega) (by omega)]
    congr 1
    omega
  · obtain ⟨r, _, rfl⟩ := List.mem_map.mp hx
    refine Gv.get ?_
    rw [hb]
    have e : ∀ q ∈ rng 0 6, cutL ((rng X (W + 5)).map fun c => val w h M c r) (some q) (some (q + (W : Int))) = (rng 0 W).map fun c => itD ((rng X (W + 5)).map fun c => val w h M c r) (c + q) := by
      intro q hq
      have hq := rng_mem hq
      rw [cut_tab (by omega) (by omega)]
      refine rng_map_ext fun i hi => ?_
      rw [rng_map_itD (by omega) (by omega)]
      congr 1
      omega
    refine Gv.grd hf (Gv.bind_eq (mapA_pure0 (g := fun q => (rng 0 W).map fun c => itD ((rng X (W + 5)).map fun c => val w h M c r) (c + q)) (fun q hq => by rw [noEr_ok, e q hq]) (by decide)) (Gv.bind_eq (weighted_eq hf.1 hf.2 (by omega)) (Gv.grd hs2 (Gv.bnd fun y hy => .ok hy))))
theorem down_eq {f g X r0 : Int} {W H : Nat} (hg : 0 ≤ g ∧ g < 4) (hW : W ≤ 900) (hH : H ≤ 900) {c : Int → Rx (List Int)} (hc : ∀ t, c t = (grd ((0 : Int) ≤ g ∧ g < 4) <| Rx.bind (F__weighted (itD WT g) (cutL ((rng r0 (H + 5)).map fun r => (rng X W).map fun c => hs w h M f c r) (some t) (some (t + 6)))) fun v => Rx.bind (mapA v [] (fun x => noEr (Rx.bind (F_clip ((x + 2048) / 4096) 0 top) fun z => .ok z))) fun v2 => .ok v2)) :
    mapA (rng 0 H) [] (fun x => noEr (c x)) = .ok ((rng 0 H).map fun t => (rng X W).map fun c => cl ((dot (itD WT g) ((rng 0 6).map fun q => hs w h M f c (r0 + t + q)) + 2048) / 4096) top) := by
  rw [mapA_pure0 (g := fun t => (rng X W).map fun c => cl ((dot (itD WT g) ((rng 0 6).map fun q => hs w h M f c (r0 + t + q)) + 2048) / 4096) top) (fun t ht => ?_) (by rw [rng_len]; omega)]
  have ht := rng_mem ht
  rw [hc]
  have e : cutL ((rng r0 (H + 5)).map fun r => (rng X W).map fun c => hs w h M f c r) (some t) (some (t + 6)) = (rng (r0 + t) 6).map fun r => (rng X W).map fun c => hs w h M f c r := cut_tab (k := 6) (by omega) (by omega)
  rw [e, grd_pos hg, weighted_eq hg.1 hg.2 (by omega), bind_ok, mapA_pure0 (f := fun x => noEr ((F_clip ((x + 2048) / 4096) 0 top).bind fun z => Rx.ok z)) (g := fun x => cl ((x + 2048) / 4096) top) (fun x _ => rfl) (by rw [List.length_map, rng_len]; omega), bind_ok, noEr_ok, List.map_map]
  refine congrArg Rx.ok (List.map_congr_left fun c _ => ?_)
  show cl ((dot _ ((rng (r0 + t) 6).map _) + 2048) / 4096) top = cl ((dot _ ((rng 0 6).map _) + 2048) / 4096) top
  rw [rng_map_ext (a := r0 + t) (b := 0) (g := fun q => hs w h M f c (r0 + t + q)) (fun i _ => by rw [Int.zero_add])]
theorem qa_eq (p : Pl w h top M) {x y : Int} {W H : Nat} (hx : -100000 ≤ x ∧ x ≤ 100000) (hy : -100000 ≤ y ∧ y ≤ 100000) (hW : W ≤ 100) (hH : H ≤ 100) :
    F_quarter_area M x y W H top = .ok ((rng 0 H).map fun j => (rng 0 W).map fun i => qv w h top M (x + 4 * i) (y + 4 * j)) := by
  have fin : ((rng 0 H).map fun t => (rng (x / 4 - 2) W).map fun c => cl ((dot (itD WT (y % 4)) ((rng 0 6).map fun q => hs w h M (x % 4) c (y / 4 - 2 + t + q)) + 2048) / 4096) top) = (rng 0 H).map fun j => (rng 0 W).map fun i => qv w h top M (x + 4 * i) (y + 4 * j) := by
    apply List.map_congr_left
    intro j _
    refine rng_map_ext fun i _ => ?_
    unfold qv
    rw [show (y + 4 * j) % 4 = y % 4 by omega, show (y + 4 * j) / 4 = y / 4 + j by omega, show (x + 4 * (0 + (i : Int))) % 4 = x % 4 by omega, show (x + 4 * (0 + (i : Int))) / 4 = x / 4 + i by omega]
    rw [show x / 4 + (i : Int) - 2 = x / 4 - 2 + i by omega, show y / 4 + j - 2 = y / 4 - 2 + j by omega]
  have hf : 0 ≤ x % 4 ∧ x % 4 < 4 := by omega
  have hg : 0 ≤ y % 4 ∧ y % 4 < 4 := by omega
  have s1 := samples_eq p (x := x / 4 - 2) (y := y / 4 - 2) (W := W + 5) (H := H + 5) (by omega) (by omega) (by omega) (by omega)
  rw [show ((W : Int) + 5).toNat = W + 5 by omega, show ((H : Int) + 5).toNat = H + 5 by omega] at s1
  refine Gv.get ?_
  unfold F_quarter_area
  rw [mask2, mask2]
  refine Gv.bnd fun f hf2 => Gv.bnd fun g hg2 => ?_
  subst hf2 hg2
  refine Gv.ite (fun c1 => Gv.ite (fun c2 => ?_) fun c2 => ?_) fun c1 => ?_
  · refine Gv.bind_eq (samples_eq p (by omega) (by omega) (by omega) (by omega)) (.ok ?_)
    rw [Int.toNat_natCast, Int.toNat_natCast]
    refine rng_map_ext fun j _ => ?_
    show (rng (x / 4) W).map _ = (rng 0 W).map _
    refine rng_map_ext fun i _ => ?_
    rw [qv_zero p (by omega) (by omega)]
    congr 1 <;> omega
  · refine Gv.bind_eq s1 (Gv.bind_eq (sums_eq hf (by omega) (by omega) (fun s x => rfl)) ?_)
    unfold F_quarter_area_r1
    refine Gv.grd ⟨by omega, by omega⟩ ?_
    rw [Int.toNat_natCast]
    refine Gv.bind_eq (down_eq (top := top) (f := x % 4) hg (by omega) (by omega) (fun t => rfl)) (.ok fin)
  · refine Gv.bind_eq s1 (Gv.bind_eq (sums_eq hf (by omega) (by omega) (fun s x => rfl)) ?_)
    unfold F_quarter_area_r5
    refine Gv.grd ⟨by omega, by omega⟩ ?_
    rw [Int.toNat_natCast]
    refine Gv.bind_eq (down_eq (top := top) (f := x % 4) hg (by omega) (by omega) (fun t => rfl)) (.ok fin)
end
/-! ### eighths -/
def h8 (w h : Int) (M : List (List Int)) (f c r : Int) : Int := (8 - f) * val w h M c r + f * val w h M (c + 1) r
def ev8 (w h : Int) (M : List (List Int)) (x y : Int) : Int := ((8 - y % 8) * h8 w h M (x % 8) (x / 8) (y / 8) + (y % 8) * h8 w h M (x % 8) (x / 8) (y / 8 + 1) + 32) / 64
theorem mix8 {f a b t : Int} (hf : 0 ≤ f) (h8 : f < 8) (ha : 0 ≤ a ∧ a ≤ t) (hb : 0 ≤ b ∧ b ≤ t) : 0 ≤ (8 - f) * a + f * b ∧ (8 - f) * a + f * b ≤ 8 * t := by
  have : f = 0 ∨ f = 1 ∨ f = 2 ∨ f = 3 ∨ f = 4 ∨ f = 5 ∨ f = 6 ∨ f = 7 := by omega
  rcases this with rfl | rfl | rfl | rfl | rfl | rfl | rfl | rfl <;> omega
section
variable {w h top : Int} {M : List (List Int)}
theorem ev8_in (p : Pl w h top M) (x y : Int) : 0 ≤ ev8 w h M x y ∧ ev8 w h M x y ≤ top := by
  have a := fun r => mix8 (f := x % 8) (by omega) (by omega) (p.val (x / 8) r) (p.val (x / 8 + 1) r)
  have b := mix8 (f := y % 8) (by omega) (by omega) (a (y / 8)) (a (y / 8 + 1))
  unfold ev8 h8
  omega
theorem eighth_law (p : Pl w h top M) (x y : Int) : F__law_eighth M x y = .ok (ev8 w h M x y) := by
  refine Gv.get ?_
  unfold F__law_eighth
  rw [mask3, mask3]
  refine Gv.bnd fun f hf => Gv.bnd fun g hg => Gv.bnd fun i hi => Gv.bnd fun j hj => ?_
  subst hf hg hi hj
  refine Gv.bind_eq (at_eq p _ _) (Gv.grd (.inl ⟨by omega, by omega⟩) (Gv.bind_eq (at_eq p _ _) (Gv.grd (.inl ⟨by omega, by omega⟩) (Gv.bnd fun u hu => Gv.bind_eq (at_eq p _ _) (Gv.grd (.inl ⟨by omega, by omega⟩) (Gv.bind_eq (at_eq p _ _) (Gv.grd (.inl ⟨by omega, by omega⟩) (Gv.bnd fun l hl => Gv.grd (.inl ⟨by omega, by omega⟩) (Gv.grd (.inl ⟨by omega, by omega⟩) (.ok ?_))))))))))
  subst hu hl
  rfl
theorem ea_eq (p : Pl w h top M) {x y : Int} {W H : Nat} (t : Int) (hx : -100000 ≤ x ∧ x ≤ 100000) (hy : -100000 ≤ y ∧ y ≤ 100000) (hW : W ≤ 100) (hH : H ≤ 100) :
    F_eighth_area M x y W H t = .ok ((rng 0 H).map fun j => (rng 0 W).map fun i => ev8 w h M (x + 8 * i) (y + 8 * j)) := by
  have s1 := samples_eq p (x := x / 8) (y := y / 8) (W := W + 1) (H := H + 1) (by omega) (by omega) (by omega) (by omega)
  rw [show ((W : Int) + 1).toNat = W + 1 by omega, show ((H : Int) + 1).toNat = H + 1 by omega] at s1
  refine Gv.get ?_
  unfold F_eighth_area
  rw [mask3, mask3]
  refine Gv.bnd fun f hf2 => Gv.bnd fun g hg2 => ?_
  subst hf2 hg2
  have key : forS ((rng (y / 8) (H + 1)).map fun r => (rng (x / 8) (W + 1)).map fun c => val w h M c r) [] (fun s z => F_eighth_area_b1 (x % 8) s z) = .ok ((rng (y / 8) (H + 1)).map fun r => (rng (x / 8) W).map fun c => h8 w h M (x % 8) c r) := by
    rw [forS_list (g := fun row => (List.zip row (cutL row (some 1) none)).map fun z => (8 - x % 8) * z.1 + x % 8 * z.2) (fun s z hz hs2 => ?_) [] (by rw [List.length_map, rng_len]; simp; omega)]
    · rw [List.nil_append, List.map_map]
      congr 1
      apply List.map_congr_left
      intro r _
      show (List.zip ((rng (x / 8) (W + 1)).map _) (cutL ((rng (x / 8) (W + 1)).map _) (some 1) none)).map _ = _
      rw [zip_tab, List.map_map]
      rfl
    · obtain ⟨r, _, rfl⟩ := List.mem_map.mp hz
      refine Gv.get ?_
      unfold F_eighth_area_b1
      refine Gv.bind_eq (mapA_pure0 (g := fun z => (8 - x % 8) * z.1 + x % 8 * z.2) (fun z _ => ?_) (by rw [zip_tab, List.length_map, rng_len]; omega)) (Gv.grd hs2 (Gv.bnd fun q hq => .ok hq))
      unfold F_eighth_area_c2
      rw [grd_pos (.inl ⟨by omega, by omega⟩), grd_pos (.inl ⟨by omega, by omega⟩)]
      rfl
  refine Gv.bind_eq s1 (Gv.bind_eq key ?_)
  unfold F_eighth_area_r1
  rw [zip_tab]
  refine Gv.bind_eq (mapA_pure0 (g := fun q => (List.zip q.1 q.2).map fun z => ((8 - y % 8) * z.1 + y % 8 * z.2 + 32) / 64) (fun q hq => ?_) (by rw [List.length_map, rng_len]; omega)) (.ok ?_)
  · obtain ⟨r, _, rfl⟩ := List.mem_map.mp hq
    unfold F_eighth_area_c3
    rw [mapA_pure0 (f := fun z => noEr (F_eighth_area_c4 (y % 8) z)) (g := fun z => ((8 - y % 8) * z.1 + y % 8 * z.2 + 32) / 64) (fun z _ => ?_) (by rw [zip_tab2, List.length_map, rng_len]; omega)]
    · rfl
    · unfold F_eighth_area_c4
      rw [grd_pos (.inl ⟨by omega, by omega⟩), grd_pos (.inl ⟨by omega, by omega⟩)]
      rfl
  · rw [List.map_map]
    refine rng_map_ext fun j _ => ?_
    show (List.zip ((rng (x / 8) W).map _) ((rng (x / 8) W).map _)).map _ = _
    rw [zip_tab2, List.map_map]
    refine rng_map_ext fun i _ => ?_
    show ((8 - y % 8) * h8 w h M (x % 8) (x / 8 + i) (y / 8 + j) + y % 8 * h8 w h M (x % 8) (x / 8 + i) (y / 8 + j + 1) + 32) / 64 = _
    unfold ev8
    rw [show (x + 8 * (0 + (i : Int))) % 8 = x % 8 by omega, show (x + 8 * (0 + (i : Int))) / 8 = x / 8 + i by omega, show (y + 8 * (0 + (j : Int))) % 8 = y % 8 by omega, show (y + 8 * (0 + (j : Int))) / 8 = y / 8 + j by omega]
end
/-! the plane that a law draws -/
theorem Inb.allP {l : Int} : ∀ {vs ls : List Int}, Inb vs ls → (∀ y ∈ ls, y = l) → ∀ x ∈ vs, 0 ≤ x ∧ x < l
  | [], [], _, _, x, hx => nomatch hx
  | v :: vs, m :: ls, h, e, x, hx => by
    have em := e m List.mem_cons_self
    subst em
    rcases List.mem_cons.mp hx with rfl | hx
    · exact ⟨h.1, h.2.1⟩
    · exact Inb.allP h.2.2 (fun y hy => e y (List.mem_cons_of_mem _ hy)) x hx
theorem rep_one {v k x : Int} (h : x ∈ repL [v] k) : x = v := by
  unfold repL at h
  obtain ⟨l, hl, hx⟩ := List.mem_flatten.mp h
  rw [(List.mem_replicate.mp hl).2] at hx
  exact List.mem_singleton.mp hx
theorem rep_lenP {v k : Int} (h : 0 ≤ k) : ((repL [v] k).length : Int) = k := by
  unfold repL
  obtain ⟨j, rfl⟩ : ∃ j : Nat, k = (j : Int) := ⟨k.toNat, by omega⟩
  rw [Int.toNat_natCast]
  have : (List.replicate j [v]).flatten.length = j := by
    induction j with
    | zero => rfl
    | succ j ih =>
      rw [List.replicate_succ, List.flatten_cons, List.length_append, ih (by omega)]
      simp
      omega
  rw [this]
theorem one_4096 : -(2 ^ 4096) < (1 : Int) ∧ (1 : Int) < 2 ^ 4096 := by
  have h : (0 : Int) < 2 ^ 4095 := Int.pow_pos (by decide)
  have e : (2 : Int) ^ 4096 = 2 ^ 4095 * 2 := Int.pow_succ 2 4095
  generalize (2 : Int) ^ 4095 = z at h e
  generalize (2 : Int) ^ 4096 = y at e ⊢
  omega
theorem top_b {d : Int} (h0 : 0 ≤ d) (h1 : d < 5) : 255 ≤ 1 * 2 ^ Int.toNat (8 + d) - (1 : Int) ∧ 1 * 2 ^ Int.toNat (8 + d) - (1 : Int) ≤ 4095 := by
  have : d = 0 ∨ d = 1 ∨ d = 2 ∨ d = 3 ∨ d = 4 := by omega
  rcases this with rfl | rfl | rfl | rfl | rfl <;> decide
theorem plane_gv (cell : Int) {w h top : Int} (hw : 1 ≤ w ∧ w ≤ 100) (hh : 1 ≤ h ∧ h ≤ 100) (ht : 0 ≤ top ∧ top ≤ 4095) : Gv (F__law_plane cell w h top) (Pl w h top) := by
  have hn0 : 1 ≤ w * h := by have := Int.mul_le_mul hw.1 hh.1 (by decide) (by omega); simpa using this
  have hn1 : w * h ≤ 10000 := by have := Int.mul_le_mul hw.2 hh.2 (by omega) (by decide); simpa using this
  have D : ∀ (v : List Int), (v.length : Int) = w * h → (∀ x ∈ v, 0 ≤ x ∧ x ≤ top) → Gv (F__law_plane_k4 w h v) (Pl w h top) := by
    intro v hl hb
    unfold F__law_plane_k4
    refine Gv.grd ⟨by omega, by omega⟩ (Gv.bind_eq (mapA_pure0 (g := fun j => cutL v (some (j * w)) (some ((j + 1) * w))) (fun j hj => ?_) (by rw [rng_len]; omega)) (.ok ⟨hw.1, hh.1, by rw [List.length_map, rng_len]; omega, fun r hr => ?_, fun r hr x hx => ?_⟩))
    · unfold F__law_plane_c6
      rw [grd_pos (.inr ⟨by omega, by omega⟩), grd_pos (.inr ⟨by omega, by omega⟩)]
      rfl
    · obtain ⟨j, hj, rfl⟩ := List.mem_map.mp hr
      have hj := rng_mem hj
      have a0 : 0 ≤ j * w := Int.mul_nonneg (by omega) (by omega)
      have a1 : (j + 1) * w = j * w + w := by rw [Int.add_mul, Int.one_mul]
      have a2 : (j + 1) * w ≤ h * w := Int.mul_le_mul_of_nonneg_right (by omega) (by omega)
      rw [Int.mul_comm h w] at a2
      unfold cutL
      rw [sIx_at a0 (by omega), sIx_at (by omega) (by omega), List.length_take, List.length_drop]
      omega
    · obtain ⟨j, hj, rfl⟩ := List.mem_map.mp hr
      unfold cutL at hx
      exact hb x (List.mem_of_mem_drop (List.mem_of_mem_take hx))
  unfold F__law_plane
  refine Gv.bnd fun kind _ => Gv.grd (.inl ⟨by omega, by omega⟩) (Gv.grd ⟨by omega, by omega, by show 1 * _ ≤ _; omega⟩ (Gv.bind (draws_gv _ _ (fun l hl => ?_) ?_) fun v hv => ?_))
  · rw [rep_one hl]; omega
  · have := rep_lenP (v := top + 1) (k := w * h) (by omega)
    omega
  have hvl : (v.length : Int) = w * h := by rw [hv.len]; exact rep_lenP (by omega)
  have hvb : ∀ x ∈ v, 0 ≤ x ∧ x ≤ top := fun x hx => by have := hv.allP (l := top + 1) (fun y hy => rep_one hy) x hx; omega
  refine Gv.bind (P := fun v => (v.length : Int) = w * h ∧ ∀ x ∈ v, 0 ≤ x ∧ x ≤ top) (Gv.ite (fun _ => Gv.grd (by omega) (Gv.grd (.inl ⟨by omega, by omega⟩) (Gv.grd ⟨by omega, by omega, by show 1 * _ ≤ _; omega⟩ (.ok ⟨rep_lenP (by omega), fun x hx => ?_⟩)))) fun _ => .ok ⟨hvl, hvb⟩) fun v1 h1 => ?_
  · rw [rep_one hx]
    exact hvb _ (itD_mem (by omega))
  unfold F__law_plane_k1
  refine Gv.bind (P := fun v => (v.length : Int) = w * h ∧ ∀ x ∈ v, 0 ≤ x ∧ x ≤ top) (Gv.ite (fun _ => Gv.grd (.inl ⟨by omega, by omega⟩) (Gv.grd ⟨by omega, by omega⟩ (Gv.bind_eq (mapA_pure0 (g := fun k => (itD v1 0 + 7 * k) % (top + 1)) (fun k _ => ?_) (by rw [rng_len]; omega)) (.ok ⟨by rw [List.length_map, rng_len]; omega, fun x hx => ?_⟩)))) fun _ => .ok h1) fun v2 h2 => ?_
  · unfold F__law_plane_c3
    rw [grd_pos (by have := h1.1; omega), grd_pos (by omega)]
    rfl
  · obtain ⟨k, _, rfl⟩ := List.mem_map.mp hx
    have a := Int.emod_nonneg (itD v1 0 + 7 * k) (show top + 1 ≠ 0 by omega)
    have b := Int.emod_lt_of_pos (itD v1 0 + 7 * k) (show 0 < top + 1 by omega)
    omega
  unfold F__law_plane_k2
  refine Gv.bind (P := fun v => (v.length : Int) = w * h ∧ ∀ x ∈ v, 0 ≤ x ∧ x ≤ top) (Gv.ite (fun _ => Gv.bind_eq (mapA_pure0 (g := fun k => top * (k % 2)) (fun k _ => ?_) (by have := h2.1; omega)) (.ok ⟨by rw [List.length_map]; exact h2.1, fun x hx => ?_⟩)) fun _ => .ok h2) fun v3 h3 => D v3 h3.1 h3.2
  · unfold F__law_plane_c5
    rw [grd_pos (.inl ⟨by omega, by omega⟩)]
    rfl
  · obtain ⟨k, _, rfl⟩ := List.mem_map.mp hx
    have : k % 2 = 0 ∨ k % 2 = 1 := by omega
    rcases this with e | e <;> rw [e] <;> omega
theorem plane_list {M : List (List Int)} (h : M.length ≤ 1000000) {f : List Int → Rx (List Int)} (hf : ∀ x, f x = .ok x) : mapA M [] f = .ok M := by
  rw [mapA_pure0 (g := id) (fun x _ => hf x) h, List.map_id]
/-! ### headers of pictures -/
def rq (b : Bool) : Rx Unit := if b = true then .ok () else .er 3
theorem rq_req (b : Bool) (t : Str) : F__require b t = rq b := rfl
theorem rq_bind (a b : Bool) {f : Unit → Rx Unit} (h : f () = rq b) : (rq a).bind f = rq (a && b) := by
  cases a
  · rfl
  · show f () = _
    rw [h]
    rfl
theorem rq_if {p : Prop} [Decidable p] (b : Bool) (t : Str) : (if p then (F__require b t).bind fun _ => .ok () else (F__require false t).bind fun _ => .ok () : Rx Unit) = rq (decide p && b) := by
  by_cases h : p
  · rw [if_pos h, decide_eq_true h]
    cases b <;> rfl
  · rw [if_neg h, decide_eq_false h]
    rfl
theorem rq_or {c : Bool} (b : Bool) (t : Str) : (if c = true then (F__require true t).bind fun _ => .ok () else (F__require b t).bind fun _ => .ok () : Rx Unit) = rq (c || b) := by
  cases c <;> cases b <;> rfl
abbrev CNT : List (Str × List Int) := [("I", [0]), ("P", [1, 2]), ("B", [2])]
/-- what a header of a picture must be -/
structure HOk (S : St_Settings) (n : Int) (k : Str) (l : Int) (st rf : List Int) (w ly ed : Int) : Prop where
  num : 0 ≤ n ∧ n ≤ 999
  kind : k ∈ ([("I" : Str), ("P" : Str), ("B" : Str)] : List Str)
  level : 0 ≤ l ∧ l ≤ 31
  weight : 0 ≤ w ∧ w ≤ 16
  even : w = 8 ∨ k = "B"
  layer : 0 ≤ ly ∧ ly < S.layers
  edge : -6 ≤ ed ∧ ed ≤ 6
  deb : ed = 0 ∨ S.deblock = true
  slots : ∀ x ∈ st ++ rf, 0 ≤ x ∧ x < S.slots
  asc : st = sortSet st
  cnt : (rf.length : Int) ∈ dictG CNT k
def nB (S : St_Settings) (h : St_PictureHeader) : Bool :=
  (decide (0 ≤ h.number) && decide (h.number ≤ 999)) && (decide (h.kind ∈ ([("I" : Str), ("P" : Str), ("B" : Str)] : List Str)) && ((decide (0 ≤ h.level) && decide (h.level ≤ 31)) && ((decide (0 ≤ h.weight) && decide (h.weight ≤ 16)) && ((decide (h.weight = 8) || decide (V.str h.kind = V.str ("B" : Str))) && ((decide (0 ≤ h.layer) && decide (h.layer < S.layers)) && ((decide (-6 ≤ h.edge) && decide (h.edge ≤ 6)) && (decide (h.edge = 0) || S.deblock)))))))
theorem numbers_eq (S : St_Settings) (h : St_PictureHeader) : F__check_numbers S h = rq (nB S h) := by
  unfold F__check_numbers
  rw [rq_if]
  refine rq_bind _ _ ?_
  show F__check_numbers_k1 S h = _
  unfold F__check_numbers_k1
  rw [rq_req]
  have e : ∀ b : Bool, ((rq b).bind fun _ => Rx.ok ()) = rq b := fun b => by cases b <;> rfl
  rw [e]
  refine rq_bind _ _ ?_
  show F__check_numbers_k2 S h = _
  unfold F__check_numbers_k2
  rw [rq_if]
  refine rq_bind _ _ ?_
  show F__check_numbers_k3 S h = _
  unfold F__check_numbers_k3
  rw [rq_if]
  refine rq_bind _ _ ?_
  show F__check_numbers_k4 S h = _
  unfold F__check_numbers_k4
  rw [rq_or]
  refine rq_bind _ _ ?_
  show F__check_numbers_k5 S h = _
  unfold F__check_numbers_k5
  rw [rq_if]
  refine rq_bind _ _ ?_
  show F__check_numbers_k6 S h = _
  unfold F__check_numbers_k6
  rw [rq_if]
  refine rq_bind _ _ ?_
  show F__check_numbers_k7 S h = _
  unfold F__check_numbers_k7
  exact rq_or _ _
def sB (S : St_Settings) (x : Int) : Bool := decide (0 ≤ x) && decide (x < S.slots)
theorem loop_eq (S : St_Settings) : ∀ xs : List Int, forS xs () (fun _ x => F__check_slots_b1 S x) = rq (xs.all (sB S))
  | [] => rfl
  | x :: r => by
    rw [List.all_cons]
    show (F__check_slots_b1 S x).bind (fun _ => forS r () (fun _ x => F__check_slots_b1 S x)) = _
    have e : F__check_slots_b1 S x = rq (sB S x) := by
      unfold F__check_slots_b1
      rw [rq_req]
      show (rq (sB S x)).bind _ = _
      cases sB S x <;> rfl
    rw [e]
    exact rq_bind _ _ (loop_eq S r)
theorem slots_eq (S : St_Settings) (h : St_PictureHeader) (h1 : h.store.length ≤ 50) (h2 : h.refs.length ≤ 50) (hk : hasG CNT h.kind = true) :
    F__check_slots S h = rq ((h.store ++ h.refs).all (sB S) && (decide (h.store = sortSet h.store) && decide ((h.refs.length : Int) ∈ dictG CNT h.kind))) := by
  unfold F__check_slots
  rw [grd_pos (by omega), loop_eq]
  refine rq_bind _ _ ?_
  show F__check_slots_r1 h = _
  unfold F__check_slots_r1
  rw [grd_pos h1, rq_req]
  refine rq_bind _ _ ?_
  show grd (hasG CNT h.kind = true) _ = _
  rw [grd_pos hk, rq_req]
  show (rq (decide ((h.refs.length : Int) ∈ dictG CNT h.kind))).bind _ = _
  cases decide ((h.refs.length : Int) ∈ dictG CNT h.kind) <;> rfl
theorem kind_has {k : Str} (h : k ∈ ([("I" : Str), ("P" : Str), ("B" : Str)] : List Str)) : hasG CNT k = true := by
  simp only [List.mem_cons, List.not_mem_nil, or_false] at h
  rcases h with rfl | rfl | rfl <;> decide +kernel
section
variable {S : St_Settings} {n : Int} {k : Str} {l : Int} {st rf : List Int} {w ly ed : Int} {sh : Bool}
theorem nB_iff : nB S ⟨n, k, l, st, rf, w, ly, sh, ed⟩ = true ↔ (0 ≤ n ∧ n ≤ 999) ∧ k ∈ ([("I" : Str), ("P" : Str), ("B" : Str)] : List Str) ∧ (0 ≤ l ∧ l ≤ 31) ∧ (0 ≤ w ∧ w ≤ 16) ∧ (w = 8 ∨ k = "B") ∧ (0 ≤ ly ∧ ly < S.layers) ∧ (-6 ≤ ed ∧ ed ≤ 6) ∧ (ed = 0 ∨ S.deblock = true) := by
  have e : (V.str k = V.str ("B" : Str)) ↔ k = "B" := ⟨fun h => V.str.inj h, fun h => h ▸ rfl⟩
  unfold nB
  simp only [Bool.and_eq_true, Bool.or_eq_true, decide_eq_true_iff, e]
theorem hok_iff : (nB S ⟨n, k, l, st, rf, w, ly, sh, ed⟩ = true ∧ ((st ++ rf).all (sB S) && (decide (st = sortSet st) && decide ((rf.length : Int) ∈ dictG CNT k))) = true) ↔ HOk S n k l st rf w ly ed := by
  have e : ∀ x, sB S x = true ↔ (0 ≤ x ∧ x < S.slots) := fun x => by unfold sB; rw [Bool.and_eq_true, decide_eq_true_iff, decide_eq_true_iff]
  rw [nB_iff, Bool.and_eq_true, Bool.and_eq_true, decide_eq_true_iff, decide_eq_true_iff, List.all_eq_true]
  constructor
  · rintro ⟨⟨a, b, c, d, f, g, h, i⟩, j, m, o⟩
    exact ⟨a, b, c, d, f, g, h, i, fun x hx => (e x).mp (j x hx), m, o⟩
  · rintro ⟨a, b, c, d, f, g, h, i, j, m, o⟩
    exact ⟨⟨a, b, c, d, f, g, h, i⟩, fun x hx => (e x).mpr (j x hx), m, o⟩
theorem pic_ok (h1 : st.length ≤ 50) (h2 : rf.length ≤ 50) (h : HOk S n k l st rf w ly ed) : F_PictureHeader___init__ S n k l st rf w ly sh ed = .ok ⟨n, k, l, st, rf, w, ly, sh, ed⟩ := by
  have z := (hok_iff (sh := sh)).mpr h
  unfold F_PictureHeader___init__
  rw [numbers_eq, z.1, slots_eq S ⟨n, k, l, st, rf, w, ly, sh, ed⟩ h1 h2 (kind_has h.kind), z.2]
  rfl
theorem pic_er (h1 : st.length ≤ 50) (h2 : rf.length ≤ 50) (h : ¬ HOk S n k l st rf w ly ed) : F_PictureHeader___init__ S n k l st rf w ly sh ed = .er 3 := by
  unfold F_PictureHeader___init__
  rw [numbers_eq]
  cases e : nB S ⟨n, k, l, st, rf, w, ly, sh, ed⟩ with
  | false => rfl
  | true =>
    rw [slots_eq S ⟨n, k, l, st, rf, w, ly, sh, ed⟩ h1 h2 (kind_has (nB_iff.mp e).2.1)]
    cases e2 : ((st ++ rf).all (sB S) && (decide (st = sortSet st) && decide ((rf.length : Int) ∈ dictG CNT k))) with
    | false => rfl
    | true => exact absurd (hok_iff.mp ⟨e, e2⟩) h
end
theorem mapA_gvA {α β : Type} {Q : Nat → β → Prop} {xs : List α} {acc : List β} {f : α → Rx β} (hf : ∀ (i : Nat) x, xs[i]? = some x → Gv (f x) (Q (acc.length + i))) (ha : ∀ (i : Nat) y, acc[i]? = some y → Q i y) (hl : acc.length + xs.length ≤ 1000000) : Gv (mapA xs acc f) (fun v => v.length = acc.length + xs.length ∧ ∀ (i : Nat) y, v[i]? = some y → Q i y) := by
  induction xs generalizing acc with
  | nil => exact .ok ⟨by simp, ha⟩
  | cons x r ih =>
    rw [List.length_cons] at hl
    unfold mapA
    refine Gv.grd (by omega) (Gv.bind (hf 0 x rfl) fun y hy => ?_)
    have e : (acc ++ [y]).length = acc.length + 1 := by rw [List.length_append]; rfl
    refine (ih (acc := acc ++ [y]) (fun i z hz => ?_) (fun i z hz => ?_) (by rw [e]; omega)).imp fun v p => ⟨by rw [p.1, e, List.length_cons]; omega, p.2⟩
    · rw [e, Nat.add_assoc, Nat.add_comm 1 i]
      exact hf (i + 1) z (by simpa using hz)
    · rcases Nat.lt_trichotomy i acc.length with q | q | q
      · rw [List.getElem?_append_left q] at hz
        exact ha i z hz
      · subst q
        rw [List.getElem?_append_right (Nat.le_refl _), Nat.sub_self] at hz
        cases hz
        exact hy
      · rw [List.getElem?_append_right (by omega)] at hz
        have : 1 ≤ i - acc.length := by omega
        rw [List.getElem?_eq_none (by show 1 ≤ _; exact this)] at hz
        cases hz
theorem mapA_ix {α β : Type} {Q : Nat → β → Prop} {xs : List α} {f : α → Rx β} (hf : ∀ (i : Nat) x, xs[i]? = some x → Gv (f x) (Q i)) (hl : xs.length ≤ 1000000) : Gv (mapA xs [] f) (fun v => v.length = xs.length ∧ ∀ (i : Nat) y, v[i]? = some y → Q i y) :=
  (mapA_gvA (acc := []) (fun i x h => by rw [List.length_nil, Nat.zero_add]; exact hf i x h) (fun i y h => by cases h) (by simpa using hl)).imp fun v p => ⟨by simpa using p.1, p.2⟩
theorem ixQ {β : Type} [Inhabited β] {Q : Nat → β → Prop} {v : List β} (h : ∀ (i : Nat) y, v[i]? = some y → Q i y) {k : Int} (h0 : 0 ≤ k) (h1 : k < v.length) : Q k.toNat (itD v k) := by
  rw [itD_nat (j := k.toNat) (by omega) (by omega)]
  exact h _ _ (List.getElem?_eq_getElem (by omega))
def cd (a c pl : Int) : Int := if 0 < pl ∧ c = 1 then (a + 7) / 8 * 8 / 2 else (a + 7) / 8 * 8
theorem cd_in {a c pl : Int} (h : 1 ≤ a ∧ a ≤ 16) : 4 ≤ cd a c pl ∧ cd a c pl ≤ 16 := by
  unfold cd
  split <;> omega
abbrev NN (w h d c : Int) : List Int := [w, h, d, c]
theorem gn4 (w h d c : Int) (k : Int) (z : 0 ≤ k ∧ k < 4) : -((NN w h d c).length : Int) ≤ k ∧ k < ((NN w h d c).length : Int) := by show -(4 : Int) ≤ k ∧ k < (4 : Int); omega
theorem coded_eq (w h d c pl : Int) : F__law_coded (NN w h d c) pl = .ok (cd w c pl, cd h c pl) := by
  unfold F__law_coded
  have e0 : itD (NN w h d c) 0 = w := rfl
  have e1 : itD (NN w h d c) 1 = h := rfl
  have e3 : itD (NN w h d c) 3 = c := rfl
  rw [e0, e1, e3, grd_pos (gn4 _ _ _ _ _ (by decide)), bnd_eq, grd_pos (gn4 _ _ _ _ _ (by decide)), bnd_eq]
  unfold cd
  by_cases z : 0 < pl
  · rw [if_pos z, grd_pos (gn4 _ _ _ _ _ (by decide))]
    by_cases q : c = 1
    · rw [if_pos q, if_pos ⟨z, q⟩, if_pos ⟨z, q⟩]
    · rw [if_neg q, if_neg (fun x => q x.2), if_neg (fun x => q x.2)]
  · rw [if_neg z, if_neg (fun x => z x.1), if_neg (fun x => z x.1)]
def np (c : Int) : Int := 1 + (2 * (if decide (0 < c) = true then 1 else 0))
theorem np_in (c : Int) : 1 ≤ np c ∧ np c ≤ 3 := by unfold np; split <;> omega
def tp (d : Int) : Int := 1 * 2 ^ Int.toNat d - 1
theorem tp_in {d : Int} (h : 8 ≤ d ∧ d ≤ 12) : 255 ≤ tp d ∧ tp d ≤ 4095 := by
  have := top_b (d := d - 8) (by omega) (by omega)
  rw [show 8 + (d - 8) = d by omega] at this
  exact this
structure Ref (w h d c : Int) (R : List (List (List Int))) : Prop where
  len : (R.length : Int) = np c
  pl : ∀ k : Int, 0 ≤ k → k < np c → Pl (cd w c k) (cd h c k) (tp d) (itD R k)
section
variable {w h d c : Int}
theorem reference_gv (cell : Int) (hw : 1 ≤ w ∧ w ≤ 16) (hh : 1 ≤ h ∧ h ≤ 16) (hd : 8 ≤ d ∧ d ≤ 12) : Gv (F__law_reference cell (NN w h d c)) (Ref w h d c) := by
  unfold F__law_reference
  have e2 : itD (NN w h d c) 2 = d := rfl
  have e3 : itD (NN w h d c) 3 = c := rfl
  have n0 := np_in c
  have ht := tp_in hd
  rw [e2, e3]
  show Gv (grd _ (grd _ (bnd (tp d) fun top => grd _ (grd (-(2 ^ 62) ≤ (np c : Int) ∧ (np c : Int) < 2 ^ 62) (Rx.bind (mapA (rng 0 (Int.toNat (np c))) [] (fun x => noEr (F__law_reference_c1 (NN w h d c) x))) _))))) _
  refine Gv.grd (gn4 _ _ _ _ _ (by decide)) (Gv.grd ⟨by omega, by omega, one_4096⟩ (Gv.bnd fun top htop => Gv.grd (gn4 _ _ _ _ _ (by decide)) (Gv.grd ⟨by omega, by omega⟩ ?_)))
  subst htop
  refine Gv.bind_eq (mapA_pure0 (g := fun k => (cd w c k, cd h c k)) (fun k hk => ?_) (by rw [rng_len]; omega)) ?_
  · unfold F__law_reference_c1
    rw [coded_eq]
    rfl
  have ls : (((rng 0 (Int.toNat (np c))).map fun k => (cd w c k, cd h c k)).length : Int) = np c := by rw [List.length_map, rng_len]; omega
  rw [ls]
  refine Gv.grd ⟨by omega, by omega⟩ (Gv.bind (mapA_ix (Q := fun i M => Pl (cd w c i) (cd h c i) (tp d) M) (fun i x hx => Gv.noEr ?_) (by rw [rng_len]; omega)) fun v hv => .ok ⟨by rw [hv.1, rng_len]; omega, fun k k0 k1 => ?_⟩)
  · obtain ⟨rfl, hi⟩ := rng_at hx
    unfold F__law_reference_c2
    have ei : itD ((rng 0 (Int.toNat (np c))).map fun k => (cd w c k, cd h c k)) (0 + (i : Int)) = (cd w c (i : Int), cd h c (i : Int)) := by
      rw [rng_map_itD (by omega) (by omega)]
      show (cd w c (0 + (0 + (i : Int))), _) = _
      rw [show (0 : Int) + (0 + (i : Int)) = i by omega]
    refine Gv.grd ⟨by omega, by omega⟩ (Gv.grd ⟨by rw [ls]; omega, by rw [ls]; omega⟩ (Gv.grd ⟨by rw [ls]; omega, by rw [ls]; omega⟩ ?_))
    rw [ei]
    have cw := cd_in (c := c) (pl := i) hw
    have ch := cd_in (c := c) (pl := i) hh
    exact Gv.bind (plane_gv _ (by omega) (by omega) (by omega)) fun M p => .ok p
  · have := ixQ hv.2 k0 (by rw [hv.1, rng_len]; omega)
    rw [show ((k.toNat : Nat) : Int) = k by omega] at this
    exact this
theorem id_list {α : Type} {M : List α} (h : M.length ≤ 1000000) {f : α → Rx α} (hf : ∀ x ∈ M, f x = .ok x) : mapA M [] f = .ok M := by
  rw [mapA_pure0 (g := id) hf h, List.map_id]
theorem copy_eq {R : List (List (List Int))} (rr : Ref w h d c R) (hh : 1 ≤ h ∧ h ≤ 16) : F__law_copy R = .ok R := by
  have n0 := np_in c
  unfold F__law_copy
  rw [id_list (by have := rr.len; omega) fun M hM => ?_]
  · rfl
  obtain ⟨j, hj⟩ := List.mem_iff_getElem?.mp hM
  have hl := get_len hj
  have p := rr.pl j (by omega) (by have := rr.len; omega)
  rw [itD_nat (j := j) rfl hl] at p
  have e : R[j] = M := by rw [List.getElem?_eq_getElem hl] at hj; exact Option.some.inj hj
  rw [e] at p
  have c4 := cd_in (c := c) (pl := j) hh
  unfold F__law_copy_c1
  rw [id_list (f := fun x => noEr (F__law_copy_c2 x)) (by have := p.2.2.1; omega) fun r hr => rfl]
  rfl
end
/-- the predicted area -/
def tab (w h d c : Int) (R : List (List (List Int))) (pl x y vx vy : Int) (W H : Nat) : List (List Int) :=
  (rng 0 H).map fun j => (rng 0 W).map fun i => if 0 < pl ∧ c = 1 then ev8 (cd w c pl) (cd h c pl) (itD R pl) (8 * x + vx + 8 * i) (8 * y + vy + 8 * j) else qv (cd w c pl) (cd h c pl) (tp d) (itD R pl) (4 * x + vx + 4 * i) (4 * y + vy + 4 * j)
section
variable {w h d c : Int} {R : List (List (List Int))} {pl x y vx vy : Int} {W H : Nat}
theorem tab_len : (tab w h d c R pl x y vx vy W H).length = H := by unfold tab; rw [List.length_map, rng_len]
theorem tab_rows : ∀ r ∈ tab w h d c R pl x y vx vy W H, r.length = W := fun r hr => by
  obtain ⟨j, _, rfl⟩ := List.mem_map.mp hr
  rw [List.length_map, rng_len]
theorem plok (rr : Ref w h d c R) (hp : 0 ≤ pl ∧ pl < np c) : -((R : List (List (List Int))).length : Int) ≤ pl ∧ pl < (R.length : Int) := by have := rr.len; omega
theorem rows_eq (rr : Ref w h d c R) (hd : 8 ≤ d ∧ d ≤ 12) (hp : 0 ≤ pl ∧ pl < np c) (hx : 0 ≤ x ∧ x ≤ 16) (hy : 0 ≤ y ∧ y ≤ 16) (hW : W ≤ 8) (hH : H ≤ 8) :
    F__law_rows R pl (vx, vy) (NN w h d c) (x, y, (W : Int), (H : Int)) = .ok (tab w h d c R pl x y vx vy W H) := by
  have e2 : itD (NN w h d c) 2 = d := rfl
  have e3 : itD (NN w h d c) 3 = c := rfl
  have P := rr.pl pl hp.1 hp.2
  have ht := tp_in hd
  unfold F__law_rows
  rw [e2]
  refine Gv.get (Gv.grd (gn4 _ _ _ _ _ (by decide)) (Gv.grd ⟨by omega, by omega, one_4096⟩ ?_))
  show Gv (bnd (tp d) fun top => _) _
  refine Gv.bnd fun top htop => ?_
  subst htop
  refine Gv.grd ⟨by show -(2 ^ 62) ≤ y; omega, by show y < 2 ^ 62; omega, by show -(2 ^ 62) ≤ y + (H : Int); omega, by show y + (H : Int) < 2 ^ 62; omega⟩ ?_
  have eH : Int.toNat ((y + (H : Int)) - y) = H := by omega
  have eW : Int.toNat ((x + (W : Int)) - x) = W := by omega
  show Gv (Rx.bind (forS (rng y (Int.toNat ((y + (H : Int)) - y))) [] (fun s z => F__law_rows_b1 R pl (vx, vy) (NN w h d c) (x, y, (W : Int), (H : Int)) (tp d) s z)) _) _
  rw [eH]
  let g : Int → Int → Int := fun j i => if 0 < pl ∧ c = 1 then ev8 (cd w c pl) (cd h c pl) (itD R pl) (8 * i + vx) (8 * j + vy) else qv (cd w c pl) (cd h c pl) (tp d) (itD R pl) (4 * i + vx) (4 * j + vy)
  have inner : ∀ (j i : Int) (s : List Int), s.length ≤ 1000000 → F__law_rows_b2 R pl (vx, vy) (NN w h d c) (tp d) j s i = .ok (s ++ [g j i]) := fun j i s hs => by
    unfold F__law_rows_b2
    rw [e3]
    show (if 0 < pl then _ else _ : Rx (List Int)) = Rx.ok (s ++ [if 0 < pl ∧ c = 1 then _ else _])
    by_cases z : 0 < pl
    · rw [if_pos z, grd_pos (gn4 _ _ _ _ _ (by decide))]
      by_cases q : c = 1
      · rw [if_pos q, grd_pos (plok rr hp), eighth_law P, bind_ok, grd_pos hs, bnd_eq, if_pos ⟨z, q⟩]
      · rw [if_neg q, grd_pos (plok rr hp), quarter_law P, bind_ok, grd_pos hs, bnd_eq, if_neg (fun x => q x.2)]
    · rw [if_neg z, grd_pos (plok rr hp), quarter_law P, bind_ok, grd_pos hs, bnd_eq, if_neg (fun x => z x.1)]
  have outer : ∀ (s : List (List Int)) (j : Int), j ∈ rng y H → s.length ≤ 1000000 → F__law_rows_b1 R pl (vx, vy) (NN w h d c) (x, y, (W : Int), (H : Int)) (tp d) s j = .ok (s ++ [(rng x W).map (g j)]) := fun s j _ hs => by
    unfold F__law_rows_b1
    rw [grd_pos ⟨by show -(2 ^ 62) ≤ x; omega, by show x < 2 ^ 62; omega, by show -(2 ^ 62) ≤ x + (W : Int); omega, by show x + (W : Int) < 2 ^ 62; omega⟩]
    show Rx.bind (forS (rng x (Int.toNat ((x + (W : Int)) - x))) [] (fun s z => F__law_rows_b2 R pl (vx, vy) (NN w h d c) (tp d) j s z)) _ = _
    rw [eW, forS_list (g := g j) (fun s i _ hs => inner j i s hs) [] (by rw [rng_len]; show 0 + W ≤ _; omega), bind_ok]
    unfold F__law_rows_r2
    rw [grd_pos hs, bnd_eq]
    rfl
  rw [forS_list (g := fun j => (rng x W).map (g j)) outer [] (by rw [rng_len]; show 0 + H ≤ _; omega)]
  refine .ok ?_
  show (rng y H).map (fun j => (rng x W).map (g j)) = tab w h d c R pl x y vx vy W H
  unfold tab
  refine rng_map_ext fun j _ => rng_map_ext fun i _ => ?_
  show (if 0 < pl ∧ c = 1 then _ else _) = _
  rw [show 8 * (x + (i : Int)) + vx = 8 * x + vx + 8 * (0 + (i : Int)) by omega, show 8 * (y + (j : Int)) + vy = 8 * y + vy + 8 * (0 + (j : Int)) by omega, show 4 * (x + (i : Int)) + vx = 4 * x + vx + 4 * (0 + (i : Int)) by omega, show 4 * (y + (j : Int)) + vy = 4 * y + vy + 4 * (0 + (j : Int)) by omega]
theorem vector_eq (rr : Ref w h d c R) (hd : 8 ≤ d ∧ d ≤ 12) (hp : 0 ≤ pl ∧ pl < np c) (hx : 0 ≤ x ∧ x ≤ 16) (hy : 0 ≤ y ∧ y ≤ 16) (hvx : -1023 ≤ vx ∧ vx ≤ 1023) (hvy : -1023 ≤ vy ∧ vy ≤ 1023) (hW : W ≤ 8) (hH : H ≤ 8) :
    F__predict_vector ⟨w, h, d, c⟩ (vx, vy) R pl x y (W : Int) (H : Int) = .ok (tab w h d c R pl x y vx vy W H) := by
  have P := rr.pl pl hp.1 hp.2
  have et : F_Format_top ⟨w, h, d, c⟩ = .ok (tp d) := by
    unfold F_Format_top
    exact Gv.get (Gv.grd ⟨by show 0 ≤ d; omega, by show d ≤ 4096; omega, one_4096⟩ (.ok rfl))
  unfold F__predict_vector
  rw [grd_pos (plok rr hp), et]
  show (if 0 < pl then _ else _) = _
  unfold tab
  by_cases z : 0 < pl
  · rw [if_pos z]
    show (if c = 1 then _ else _) = _
    by_cases q : c = 1
    · rw [if_pos q, noEr_ok, bind_ok]
      show Rx.bind (F_eighth_area (itD R pl) (8 * x + vx) (8 * y + vy) W H (tp d)) _ = _
      rw [ea_eq P (tp d) (by omega) (by omega) (by omega) (by omega)]
      simp only [if_pos (show 0 < pl ∧ c = 1 from ⟨z, q⟩)]
      rfl
    · rw [if_neg q, noEr_ok, bind_ok]
      show Rx.bind (F_quarter_area (itD R pl) (4 * x + vx) (4 * y + vy) W H (tp d)) _ = _
      rw [qa_eq P (by omega) (by omega) (by omega) (by omega)]
      simp only [if_neg (show ¬ (0 < pl ∧ c = 1) from fun x => q x.2)]
      rfl
  · rw [if_neg z, noEr_ok, bind_ok]
    show Rx.bind (F_quarter_area (itD R pl) (4 * x + vx) (4 * y + vy) W H (tp d)) _ = _
    rw [qa_eq P (by omega) (by omega) (by omega) (by omega)]
    simp only [if_neg (show ¬ (0 < pl ∧ c = 1) from fun x => z x.1)]
    rfl
end
def TT (H W : Nat) (u : Int → Int → Int) : List (List Int) := (rng 0 H).map fun j => (rng 0 W).map fun i => u j i
def mx (wt p q : Int) : Int := (((q * wt) + (p * (16 - wt))) + 8) / 16
section
variable {H W : Nat} {u v : Int → Int → Int} {wt : Int}
theorem mixed_eq (hH : H ≤ 8) (hW : W ≤ 8) (hw : 0 ≤ wt ∧ wt ≤ 16) : F__mixed (TT H W u) (TT H W v) wt = .ok (TT H W fun j i => mx wt (u j i) (v j i)) := by
  unfold F__mixed TT
  rw [bnd_eq, zip_tab2, mapA_pure0 (g := fun p : List Int × List Int => (List.zip p.1 p.2).map fun z => mx wt z.1 z.2) (fun p hp => ?_) (by rw [List.length_map, rng_len]; omega), bind_ok, List.map_map]
  · refine congrArg Rx.ok (List.map_congr_left fun j _ => ?_)
    show (List.zip ((rng 0 W).map fun i => u j i) ((rng 0 W).map fun i => v j i)).map _ = _
    rw [zip_tab2, List.map_map]
    rfl
  · unfold F__mixed_c1
    obtain ⟨j, _, rfl⟩ := List.mem_map.mp hp
    rw [mapA_pure0 (g := fun z : Int × Int => mx wt z.1 z.2) (fun z _ => ?_) ?_]
    · rfl
    · show (List.zip ((rng 0 W).map fun i => u j i) ((rng 0 W).map fun i => v j i)).length ≤ _
      rw [zip_tab2, List.length_map, rng_len]
      omega
    · unfold F__mixed_c2
      rw [grd_pos (.inr ⟨by omega, by omega⟩), grd_pos (.inr ⟨by omega, by omega⟩)]
      rfl
theorem tt_at {j : Int} (h0 : 0 ≤ j) (h1 : j < H) : itD (TT H W u) j = (rng 0 W).map fun i => u j i := by
  unfold TT
  rw [rng_map_itD h0 h1, show (0 : Int) + j = j by omega]
theorem tt_len : ((TT H W u).length : Int) = H := by unfold TT; rw [List.length_map, rng_len]
theorem row_len {f : Int → Int} : (((rng 0 W).map f).length : Int) = W := by rw [List.length_map, rng_len]
theorem lawmix_eq (hH : H ≤ 8) (hW : W ≤ 8) (hw : 0 ≤ wt ∧ wt ≤ 16) : forS (rng 0 H) [] (fun s j => F__law_predict_b1 wt (TT H W v) (TT H W u) s j) = .ok (TT H W fun j i => mx wt (u j i) (v j i)) := by
  rw [forS_list (g := fun j => (rng 0 W).map fun i => mx wt (u j i) (v j i)) (fun s j hj hs => ?_) [] (by rw [rng_len]; show 0 + H ≤ _; omega)]
  · rfl
  have hj := rng_mem hj
  have j1 : j < H := by omega
  unfold F__law_predict_b1
  rw [tt_at hj.1 j1, row_len]
  rw [grd_pos ⟨by rw [tt_len]; omega, by rw [tt_len]; omega⟩, grd_pos ⟨by omega, by omega⟩, Int.toNat_natCast, mapA_pure0 (g := fun i => mx wt (u j i) (v j i)) (fun i hi => ?_) (by rw [rng_len]; omega), bind_ok, grd_pos hs, bnd_eq]
  have hi := rng_mem hi
  unfold F__law_predict_c2
  rw [tt_at hj.1 j1, tt_at hj.1 j1, rng_map_itD hi.1 (by omega), rng_map_itD hi.1 (by omega), show (0 : Int) + i = i by omega]
  rw [grd_pos ⟨by rw [tt_len]; omega, by rw [tt_len]; omega⟩, grd_pos ⟨by rw [row_len]; omega, by rw [row_len]; omega⟩, grd_pos (.inr ⟨by omega, by omega⟩), grd_pos ⟨by rw [tt_len]; omega, by rw [tt_len]; omega⟩, grd_pos ⟨by rw [row_len]; omega, by rw [row_len]; omega⟩, grd_pos (.inr ⟨by omega, by omega⟩)]
  rfl
end
abbrev VE (a b : Int) : PyData := encT2 PyData.int PyData.int (a, b)
def VB (a : Int) : Prop := -1023 ≤ a ∧ a ≤ 1023
inductive MOk (kind refs : Int) : Int × Int × PyData × PyData → Prop
  | p {i a b : Int} : kind = 1 → 0 ≤ i → i < refs → VB a → VB b → MOk kind refs (0, i, VE a b, encN ())
  | b0 {a b : Int} : kind = 2 → VB a → VB b → MOk kind refs (0, 0, VE a b, encN ())
  | b1 {a b : Int} : kind = 2 → VB a → VB b → MOk kind refs (1, 0, encN (), VE a b)
  | b2 {a b e f : Int} : kind = 2 → VB a → VB b → VB e → VB f → MOk kind refs (2, 0, VE a b, VE e f)
theorem component_gv (f s : Int) (h : 0 ≤ f ∧ f < 7) : Gv (F__law_component f s) VB := by
  unfold F__law_component
  refine Gv.grd (by show -(7 : Int) ≤ f ∧ f < 7; omega) (.ok ?_)
  have : f = 0 ∨ f = 1 ∨ f = 2 ∨ f = 3 ∨ f = 4 ∨ f = 5 ∨ f = 6 := by omega
  unfold VB
  rcases this with rfl | rfl | rfl | rfl | rfl | rfl | rfl
  · show -1023 ≤ (0 : Int) ∧ (0 : Int) ≤ 1023
    decide
  · show -1023 ≤ (1023 : Int) ∧ (1023 : Int) ≤ 1023
    decide
  · show -1023 ≤ (-1023 : Int) ∧ (-1023 : Int) ≤ 1023
    decide
  · show -1023 ≤ (4 : Int) ∧ (4 : Int) ≤ 1023
    decide
  · show -1023 ≤ s % 9 - 4 ∧ s % 9 - 4 ≤ 1023
    omega
  · show -1023 ≤ s % 65 - 32 ∧ s % 65 - 32 ≤ 1023
    omega
  · show -1023 ≤ s % 2047 - 1023 ∧ s % 2047 - 1023 ≤ 1023
    omega
theorem motion_gv (cell kind refs : Int) (hk : kind = 1 ∨ kind = 2) (hr : 1 ≤ refs) : Gv (F__law_motion cell kind refs) (MOk kind refs) := by
  unfold F__law_motion
  refine Gv.bind (draws_gv _ _ (by decide +kernel) (by decide +kernel)) fun v hv => ?_
  obtain ⟨d0, r0, rfl, b0, c0, hv⟩ := hv.cons
  obtain ⟨d1, r1, rfl, b1, c1, hv⟩ := hv.cons
  obtain ⟨d2, r2, rfl, b2, c2, hv⟩ := hv.cons
  obtain ⟨d3, r3, rfl, b3, c3, hv⟩ := hv.cons
  obtain ⟨d4, r4, rfl, b4, c4, hv⟩ := hv.cons
  obtain ⟨d5, r5, rfl, b5, c5, hv⟩ := hv.cons
  obtain ⟨d6, r6, rfl, b6, c6, hv⟩ := hv.cons
  obtain ⟨d7, r7, rfl, b7, c7, hv⟩ := hv.cons
  obtain ⟨d8, r8, rfl, b8, c8, hv⟩ := hv.cons
  obtain ⟨d9, r9, rfl, b9, c9, hv⟩ := hv.cons
  obtain rfl := hv.nil
  have gd : ∀ k : Int, 0 ≤ k ∧ k < 10 → -(([d0, d1, d2, d3, d4, d5, d6, d7, d8, d9] : List Int).length : Int) ≤ k ∧ k < (([d0, d1, d2, d3, d4, d5, d6, d7, d8, d9] : List Int).length : Int) := fun k z => by show -(10 : Int) ≤ k ∧ k < (10 : Int); omega
  have e0 : itD [d0, d1, d2, d3, d4, d5, d6, d7, d8, d9] 0 = d0 := rfl
  have e1 : itD [d0, d1, d2, d3, d4, d5, d6, d7, d8, d9] 1 = d1 := rfl
  have e2 : itD [d0, d1, d2, d3, d4, d5, d6, d7, d8, d9] 2 = d2 := rfl
  have e4 : itD [d0, d1, d2, d3, d4, d5, d6, d7, d8, d9] 4 = d4 := rfl
  have e6 : itD [d0, d1, d2, d3, d4, d5, d6, d7, d8, d9] 6 = d6 := rfl
  have e8 : itD [d0, d1, d2, d3, d4, d5, d6, d7, d8, d9] 8 = d8 := rfl
  rw [e0, e1, e2, e4, e6, e8]
  refine Gv.grd (gd 2 (by decide)) (Gv.grd (gd 3 (by decide)) (Gv.bind (component_gv _ _ ⟨b2, c2⟩) fun p1 h1 => Gv.grd (gd 4 (by decide)) (Gv.grd (gd 5 (by decide)) (Gv.bind (component_gv _ _ ⟨b4, c4⟩) fun p2 h2 => Gv.grd (gd 6 (by decide)) (Gv.grd (gd 7 (by decide)) (Gv.bind (component_gv _ _ ⟨b6, c6⟩) fun p3 h3 => Gv.grd (gd 8 (by decide)) (Gv.grd (gd 9 (by decide)) (Gv.bind (component_gv _ _ ⟨b8, c8⟩) fun p4 h4 => ?_))))))))
  refine Gv.ite (fun k1 => Gv.grd (gd 1 (by decide)) (Gv.grd (by omega) (.ok (.p k1 (Int.emod_nonneg _ (by omega)) (Int.emod_lt_of_pos _ (by omega)) h1 h2)))) fun k1 => ?_
  have k2 : kind = 2 := by omega
  exact Gv.grd (gd 0 (by decide)) (Gv.ite (fun _ => .ok (.b0 k2 h1 h2)) fun _ => Gv.grd (gd 0 (by decide)) (Gv.ite (fun _ => .ok (.b1 k2 h3 h4)) fun _ => .ok (.b2 k2 h1 h2 h3 h4)))
section
variable {w h d c kind refs wt : Int} {RS : List (List (List (List Int)))} {pl x y : Int} {W H : Nat} {m : Int × Int × PyData × PyData} {hdr : St_PictureHeader}
theorem pred_eq (hm : MOk kind refs m) (hr : 1 ≤ refs) (hk2 : kind = 2 → refs = 2) (hl : (RS.length : Int) = refs) (hR : ∀ R ∈ RS, Ref w h d c R) (hd : 8 ≤ d ∧ d ≤ 12) (hp : 0 ≤ pl ∧ pl < np c) (hx : 0 ≤ x ∧ x ≤ 16) (hy : 0 ≤ y ∧ y ≤ 16) (hW : W ≤ 8) (hH : H ≤ 8) (hw : 0 ≤ wt ∧ wt ≤ 16) (hh : hdr.weight = wt) :
    ∃ u, F__law_predict (NN w h d c) kind wt m RS pl (x, y, (W : Int), (H : Int)) = .ok (TT H W u) ∧ F_predict_motion ⟨w, h, d, c⟩ hdr m RS pl x y (W : Int) (H : Int) = .ok (TT H W u) := by
  have rf : ∀ i : Int, 0 ≤ i → i < refs → Ref w h d c (itD RS i) := fun i i0 i1 => hR _ (itD_mem ⟨by omega, by omega⟩)
  have gi : ∀ i : Int, 0 ≤ i → i < refs → -((RS : List (List (List (List Int)))).length : Int) ≤ i ∧ i < (RS.length : Int) := fun i i0 i1 => ⟨by omega, by omega⟩
  let U := fun (R : List (List (List Int))) (vx vy : Int) (j i : Int) => if 0 < pl ∧ c = 1 then ev8 (cd w c pl) (cd h c pl) (itD R pl) (8 * x + vx + 8 * i) (8 * y + vy + 8 * j) else qv (cd w c pl) (cd h c pl) (tp d) (itD R pl) (4 * x + vx + 4 * i) (4 * y + vy + 4 * j)
  have RE : ∀ (i a b : Int), 0 ≤ i → i < refs → F__law_rows (itD RS i) pl (a, b) (NN w h d c) (x, y, (W : Int), (H : Int)) = .ok (TT H W (U (itD RS i) a b)) := fun i a b i0 i1 => rows_eq (rf i i0 i1) hd hp hx hy hW hH
  have VQ : ∀ (i a b : Int), 0 ≤ i → i < refs → VB a → VB b → F__predict_vector ⟨w, h, d, c⟩ (a, b) (itD RS i) pl x y (W : Int) (H : Int) = .ok (TT H W (U (itD RS i) a b)) := fun i a b i0 i1 ha hb => vector_eq (rf i i0 i1) hd hp hx hy ha hb hW hH
  cases hm with
  | @p i a b k1 i0 i1 ha hb =>
    refine ⟨U (itD RS i) a b, Gv.get ?_, Gv.get ?_⟩
    · unfold F__law_predict
      exact Gv.pos k1 (Gv.grd (gi i i0 i1) (Gv.grd rfl (Gv.bind_eq (RE i a b i0 i1) (.ok rfl))))
    · unfold F_predict_motion
      exact Gv.neg (by show ¬ ((0 : Int) = 1); decide) (Gv.grd rfl (Gv.grd (gi i i0 i1) (Gv.bind_eq (VQ i a b i0 i1 ha hb) (Gv.pos rfl (.ok rfl)))))
  | @b0 a b k2 ha hb =>
    have r2 := hk2 k2
    refine ⟨U (itD RS 0) a b, Gv.get ?_, Gv.get ?_⟩
    · unfold F__law_predict
      exact Gv.neg (by omega) (Gv.pos rfl (Gv.grd (gi 0 (by decide) (by omega)) (Gv.grd rfl (Gv.bind_eq (RE 0 a b (by decide) (by omega)) (.ok rfl)))))
    · unfold F_predict_motion
      exact Gv.neg (by show ¬ ((0 : Int) = 1); decide) (Gv.grd rfl (Gv.grd (gi 0 (by decide) (by omega)) (Gv.bind_eq (VQ 0 a b (by decide) (by omega) ha hb) (Gv.pos rfl (.ok rfl)))))
  | @b1 a b k2 ha hb =>
    have r2 := hk2 k2
    refine ⟨U (itD RS 1) a b, Gv.get ?_, Gv.get ?_⟩
    · unfold F__law_predict
      exact Gv.neg (by omega) (Gv.neg (by show ¬ ((1 : Int) = 0); decide) (Gv.grd (gi 1 (by decide) (by omega)) (Gv.grd rfl (Gv.bind_eq (RE 1 a b (by decide) (by omega)) (Gv.pos rfl (.ok rfl))))))
    · unfold F_predict_motion
      exact Gv.pos rfl (Gv.grd rfl (Gv.grd (gi 1 (by decide) (by omega)) (Gv.bind_eq (VQ 1 a b (by decide) (by omega) ha hb) (.ok rfl))))
  | @b2 a b e f k2 ha hb he hf =>
    have r2 := hk2 k2
    refine ⟨fun j i => mx wt (U (itD RS 0) a b j i) (U (itD RS 1) e f j i), Gv.get ?_, Gv.get ?_⟩
    · unfold F__law_predict
      refine Gv.neg (by omega) (Gv.neg (by show ¬ ((2 : Int) = 0); decide) (Gv.grd (gi 1 (by decide) (by omega)) (Gv.grd rfl (Gv.bind_eq (RE 1 e f (by decide) (by omega)) (Gv.neg (by show ¬ ((2 : Int) = 1); decide) (Gv.grd (gi 0 (by decide) (by omega)) (Gv.grd rfl (Gv.bind_eq (RE 0 a b (by decide) (by omega)) ?_))))))))
      rw [tt_len, Int.toNat_natCast]
      exact Gv.grd ⟨by omega, by omega⟩ (Gv.bind_eq (lawmix_eq hH hW hw) (.ok rfl))
    · unfold F_predict_motion
      refine Gv.neg (by show ¬ ((2 : Int) = 1); decide) (Gv.grd rfl (Gv.grd (gi 0 (by decide) (by omega)) (Gv.bind_eq (VQ 0 a b (by decide) (by omega) ha hb) (Gv.neg (by show ¬ ((2 : Int) = 0); decide) (Gv.grd rfl (Gv.grd (gi 1 (by decide) (by omega)) (Gv.bind_eq (VQ 1 e f (by decide) (by omega) he hf) ?_)))))))
      rw [hh]
      exact Gv.bind_eq (mixed_eq hH hW hw) (.ok rfl)
end
theorem inter_gv (cell : Int) : Gv (F__law_inter cell) (fun q => ∃ w h d c kind refs wt : Int, q = (NN w h d c, kind, refs, wt) ∧ (1 ≤ w ∧ w ≤ 16) ∧ (1 ≤ h ∧ h ≤ 16) ∧ (8 ≤ d ∧ d ≤ 12) ∧ (0 ≤ c ∧ c ≤ 2) ∧ ((kind = 1 ∧ wt = 8 ∧ (refs = 1 ∨ refs = 2)) ∨ (kind = 2 ∧ refs = 2)) ∧ 0 ≤ wt ∧ wt ≤ 16) := by
  unfold F__law_inter
  refine Gv.bind (draws_gv _ _ (by decide +kernel) (by decide +kernel)) fun v hv => ?_
  obtain ⟨d0, r0, rfl, b0, c0, hv⟩ := hv.cons
  obtain ⟨d1, r1, rfl, b1, c1, hv⟩ := hv.cons
  obtain ⟨d2, r2, rfl, b2, c2, hv⟩ := hv.cons
  obtain ⟨d3, r3, rfl, b3, c3, hv⟩ := hv.cons
  obtain ⟨d4, r4, rfl, b4, c4, hv⟩ := hv.cons
  obtain ⟨d5, r5, rfl, b5, c5, hv⟩ := hv.cons
  obtain ⟨d6, r6, rfl, b6, c6, hv⟩ := hv.cons
  obtain ⟨d7, r7, rfl, b7, c7, hv⟩ := hv.cons
  obtain rfl := hv.nil
  have gd : ∀ k : Int, 0 ≤ k ∧ k < 8 → -(([d0, d1, d2, d3, d4, d5, d6, d7] : List Int).length : Int) ≤ k ∧ k < (([d0, d1, d2, d3, d4, d5, d6, d7] : List Int).length : Int) := fun k z => by show -(8 : Int) ≤ k ∧ k < (8 : Int); omega
  have e0 : itD [d0, d1, d2, d3, d4, d5, d6, d7] 0 = d0 := rfl
  have e1 : itD [d0, d1, d2, d3, d4, d5, d6, d7] 1 = d1 := rfl
  have e2 : itD [d0, d1, d2, d3, d4, d5, d6, d7] 2 = d2 := rfl
  have e3 : itD [d0, d1, d2, d3, d4, d5, d6, d7] 3 = d3 := rfl
  have e4 : itD [d0, d1, d2, d3, d4, d5, d6, d7] 4 = d4 := rfl
  have e5 : itD [d0, d1, d2, d3, d4, d5, d6, d7] 5 = d5 := rfl
  rw [e0, e1, e2, e3, e4, e5]
  refine Gv.grd (gd 0 (by decide)) (Gv.grd (gd 1 (by decide)) (Gv.grd (gd 2 (by decide)) (Gv.grd (gd 3 (by decide)) (Gv.grd (gd 4 (by decide)) (Gv.bnd fun kind hk => Gv.grd (gd 5 (by decide)) (Gv.grd (gd 4 (by decide)) (Gv.grd (by show -(2 : Int) ≤ d4 ∧ d4 < 2; omega) (Gv.bnd fun refs hr => ?_))))))))
  have hr2 : (d4 = 0 ∧ refs = 1 + d5) ∨ (d4 = 1 ∧ refs = 2) := by
    rcases (show d4 = 0 ∨ d4 = 1 by omega) with rfl | rfl
    · exact .inl ⟨rfl, hr⟩
    · exact .inr ⟨rfl, hr⟩
  refine Gv.bind (P := fun wt => (0 ≤ wt ∧ wt ≤ 16) ∧ (kind = 1 → wt = 8)) (Gv.ite (fun k2 => Gv.grd (gd 6 (by decide)) (Gv.grd (gd 7 (by decide)) (Gv.bind (between_gv _ _ 0 16 (by decide)) fun u hu => .ok ⟨hu, fun z => by omega⟩))) fun _ => .ok ⟨by decide, fun _ => rfl⟩) fun wt hwt => .ok ?_
  refine ⟨1 + d0, 1 + d1, 8 + d2, d3, kind, refs, wt, rfl, by omega, by omega, by omega, by omega, ?_, hwt.1⟩
  rcases hr2 with ⟨z, q⟩ | ⟨z, q⟩
  · exact .inl ⟨by omega, hwt.2 (by omega), by omega⟩
  · exact .inr ⟨by omega, q⟩
section
variable {w h d c kind refs wt : Int}
theorem fmt_ok (hw : 1 ≤ w ∧ w ≤ 16) (hh : 1 ≤ h ∧ h ≤ 16) (hd : 8 ≤ d ∧ d ≤ 12) (hc : 0 ≤ c ∧ c ≤ 2) : F_Format___init__ w h d c = .ok ⟨w, h, d, c⟩ := by
  unfold F_Format___init__
  rw [if_pos hw.1, if_pos (by omega), if_pos hh.1, if_pos (by omega), if_pos hd.1, if_pos hd.2, if_pos hc.1, if_pos hc.2]
theorem header_gv (hw : 1 ≤ w ∧ w ≤ 16) (hh : 1 ≤ h ∧ h ≤ 16) (hd : 8 ≤ d ∧ d ≤ 12) (hc : 0 ≤ c ∧ c ≤ 2) (hk : (kind = 1 ∧ wt = 8 ∧ (refs = 1 ∨ refs = 2)) ∨ (kind = 2 ∧ refs = 2)) (hwt : 0 ≤ wt ∧ wt ≤ 16) : Gv (F__law_header (NN w h d c) kind refs wt) (fun H => H.weight = wt) := by
  unfold F__law_header
  have e0 : itD (NN w h d c) 0 = w := rfl
  have e1 : itD (NN w h d c) 1 = h := rfl
  have e2 : itD (NN w h d c) 2 = d := rfl
  have e3 : itD (NN w h d c) 3 = c := rfl
  rw [e0, e1, e2, e3]
  refine Gv.grd (gn4 _ _ _ _ _ (by decide)) (Gv.grd (gn4 _ _ _ _ _ (by decide)) (Gv.grd (gn4 _ _ _ _ _ (by decide)) (Gv.grd (gn4 _ _ _ _ _ (by decide)) (Gv.bind_eq (fmt_ok hw hh hd hc) (Gv.bind_eq (a := ⟨⟨w, h, d, c⟩, 2, 1, false, false, 1⟩) rfl (Gv.grd (by show -(3 : Int) ≤ kind ∧ kind < 3; omega) ?_))))))
  rcases hk with ⟨rfl, rfl, rfl | rfl⟩ | ⟨rfl, rfl⟩
  · refine Gv.bind_eq (pic_ok (sh := true) (by decide) (by decide) ⟨by decide, by decide +kernel, by decide, by decide, .inl rfl, by show (0 : Int) ≤ 0 ∧ (0 : Int) < 1; decide, by decide, .inl rfl, ?_, by decide, by decide +kernel⟩) (.ok rfl)
    show ∀ x ∈ ([1] : List Int), 0 ≤ x ∧ x < (2 : Int)
    decide
  · refine Gv.bind_eq (pic_ok (sh := true) (by decide) (by decide) ⟨by decide, by decide +kernel, by decide, by decide, .inl rfl, by show (0 : Int) ≤ 0 ∧ (0 : Int) < 1; decide, by decide, .inl rfl, ?_, by decide, by decide +kernel⟩) (.ok rfl)
    show ∀ x ∈ ([1, 0] : List Int), 0 ≤ x ∧ x < (2 : Int)
    decide
  · refine Gv.bind_eq (pic_ok (sh := true) (by decide) (by decide) ⟨by decide, by decide +kernel, by decide, hwt, .inr rfl, by show (0 : Int) ≤ 0 ∧ (0 : Int) < 1; decide, by decide, .inl rfl, ?_, by decide, by decide +kernel⟩) (.ok rfl)
    show ∀ x ∈ ([1, 0] : List Int), 0 ≤ x ∧ x < (2 : Int)
    decide
theorem b3_ok {RS : List (List (List (List Int)))} {H : St_PictureHeader} (cell : Int) (hw : 1 ≤ w ∧ w ≤ 16) (hh : 1 ≤ h ∧ h ≤ 16) (hd : 8 ≤ d ∧ d ≤ 12) (hk : (kind = 1 ∧ wt = 8 ∧ (refs = 1 ∨ refs = 2)) ∨ (kind = 2 ∧ refs = 2)) (hwt : 0 ≤ wt ∧ wt ≤ 16) (hH : H.weight = wt) (hl : (RS.length : Int) = refs) (hR : ∀ R ∈ RS, Ref w h d c R) :
    F_law_b3 (NN w h d c, kind, refs, wt) (NN w h d c) H ⟨w, h, d, c⟩ RS RS cell = .ok (.go ()) := by
  refine Gv.get ?_
  unfold F_law_b3
  refine Gv.bind (draws_gv _ _ (by decide +kernel) (by decide +kernel)) fun v hv => ?_
  obtain ⟨d0, r0, rfl, b0, c0, hv⟩ := hv.cons
  obtain ⟨d1, r1, rfl, b1, c1, hv⟩ := hv.cons
  obtain ⟨d2, r2, rfl, b2, c2, hv⟩ := hv.cons
  obtain ⟨d3, r3, rfl, b3, c3, hv⟩ := hv.cons
  obtain ⟨d4, r4, rfl, b4, c4, hv⟩ := hv.cons
  obtain rfl := hv.nil
  have gd : ∀ k : Int, 0 ≤ k ∧ k < 5 → -(([d0, d1, d2, d3, d4] : List Int).length : Int) ≤ k ∧ k < (([d0, d1, d2, d3, d4] : List Int).length : Int) := fun k z => by show -(5 : Int) ≤ k ∧ k < (5 : Int); omega
  have e0 : itD [d0, d1, d2, d3, d4] 0 = d0 := rfl
  have e1 : itD [d0, d1, d2, d3, d4] 1 = d1 := rfl
  have e2 : itD [d0, d1, d2, d3, d4] 2 = d2 := rfl
  have e3 : itD [d0, d1, d2, d3, d4] 3 = d3 := rfl
  have e4 : itD [d0, d1, d2, d3, d4] 4 = d4 := rfl
  have en : itD (NN w h d c) 3 = c := rfl
  rw [e0, e1, e2, e3, e4, en]
  have n0 := np_in c
  refine Gv.grd (gd 0 (by decide)) (Gv.grd (gn4 _ _ _ _ _ (by decide)) (Gv.grd (show 0 < np c by omega) ?_))
  show Gv (bnd (d0 % np c) fun pl => _) _
  refine Gv.bnd fun pl hpl => Gv.bind_eq (coded_eq w h d c pl) (Gv.grd (gd 1 (by decide)) ?_)
  have p0 : 0 ≤ pl ∧ pl < np c := by rw [hpl]; exact ⟨Int.emod_nonneg _ (by omega), Int.emod_lt_of_pos _ (by omega)⟩
  have cw := cd_in (c := c) (pl := pl) hw
  have ch := cd_in (c := c) (pl := pl) hh
  refine Gv.grd (show 0 < cd w c pl by omega) (Gv.bnd fun x hx => Gv.grd (gd 2 (by decide)) (Gv.grd (show 0 < cd h c pl by omega) (Gv.bnd fun y hy => Gv.grd (gd 3 (by decide)) (Gv.grd (gd 4 (by decide)) (Gv.bind (motion_gv cell kind refs (by omega) (by omega)) fun m hm => ?_)))))
  have x0 : 0 ≤ x ∧ x < cd w c pl := by rw [hx]; exact ⟨Int.emod_nonneg _ (by omega), Int.emod_lt_of_pos _ (by omega)⟩
  have y0 : 0 ≤ y ∧ y < cd h c pl := by rw [hy]; exact ⟨Int.emod_nonneg _ (by omega), Int.emod_lt_of_pos _ (by omega)⟩
  obtain ⟨Wn, hWn, w1, w8⟩ : ∃ n : Nat, (if (cd w c pl - x) < (1 + d3) then (cd w c pl - x) else (1 + d3)) = (n : Int) ∧ 1 ≤ n ∧ n ≤ 8 := ⟨(if (cd w c pl - x) < (1 + d3) then (cd w c pl - x) else (1 + d3)).toNat, by split <;> omega, by split <;> omega, by split <;> omega⟩
  obtain ⟨Hn, hHn, h1, h8⟩ : ∃ n : Nat, (if (cd h c pl - y) < (1 + d4) then (cd h c pl - y) else (1 + d4)) = (n : Int) ∧ 1 ≤ n ∧ n ≤ 8 := ⟨(if (cd h c pl - y) < (1 + d4) then (cd h c pl - y) else (1 + d4)).toNat, by split <;> omega, by split <;> omega, by split <;> omega⟩
  show Gv (Rx.bind (F__law_predict (NN w h d c) kind wt m RS pl (x, y, (if (cd w c pl - x) < (1 + d3) then (cd w c pl - x) else (1 + d3)), (if (cd h c pl - y) < (1 + d4) then (cd h c pl - y) else (1 + d4)))) fun v1 => Rx.bind (F_predict_motion ⟨w, h, d, c⟩ H m RS pl x y (if (cd w c pl - x) < (1 + d3) then (cd w c pl - x) else (1 + d3)) (if (cd h c pl - y) < (1 + d4) then (cd h c pl - y) else (1 + d4))) fun v2 => _) _
  rw [hWn, hHn]
  obtain ⟨u, q1, q2⟩ := pred_eq (pl := pl) (x := x) (y := y) (W := Wn) (H := Hn) hm (by omega) (by omega) hl hR hd p0 (by omega) (by omega) w8 h8 hwt hH
  refine Gv.bind_eq q1 (Gv.bind_eq q2 (Gv.pos rfl (Gv.pos rfl (Gv.bind_eq (id_list (f := fun x => noEr (F_law_c4 x)) (by have := tt_len (H := Hn) (W := Wn) (u := u); omega) fun r _ => rfl) ?_))))
  have g0 : -(((TT Hn Wn u) : List (List Int)).length : Int) ≤ 0 ∧ 0 < ((TT Hn Wn u).length : Int) := by rw [tt_len]; omega
  have g1 : -(((itD (TT Hn Wn u) 0) : List Int).length : Int) ≤ 0 ∧ 0 < ((itD (TT Hn Wn u) 0).length : Int) := by rw [tt_at (by decide) (by omega), row_len]; omega
  exact Gv.grd g0 (Gv.grd g1 (Gv.bnd fun A hA => Gv.grd g0 (Gv.grd g1 (Gv.bnd fun B hB => Gv.pos (hA.trans hB.symm) (Gv.pos rfl (.ok rfl))))))
end
theorem law_true (xs : List Int) (hx : xs.length ≤ 63) : F_law xs = .ok true := by
  refine Gv.get ?_
  unfold F_law
  have cell : ∀ k : Int, 0 ≤ k → Gv (F__law_cell xs k) (fun _ => True) := fun k hk => cell_gv xs k hk
  refine Gv.bind (cell 0 (by decide)) fun c0 _ => Gv.bind (inter_gv c0) fun q hq => ?_
  obtain ⟨w, h, d, c, kind, refs, wt, rfl, hw, hh, hd, hc, hk, hwt⟩ := hq
  refine Gv.bind (header_gv hw hh hd hc hk hwt) fun H hH => ?_
  have e0 : itD (NN w h d c) 0 = w := rfl
  have e1 : itD (NN w h d c) 1 = h := rfl
  have e2 : itD (NN w h d c) 2 = d := rfl
  have e3 : itD (NN w h d c) 3 = c := rfl
  show Gv (grd (-((NN w h d c).length : Int) ≤ 0 ∧ 0 < ((NN w h d c).length : Int)) (grd (-((NN w h d c).length : Int) ≤ 1 ∧ 1 < ((NN w h d c).length : Int)) (grd (-((NN w h d c).length : Int) ≤ 2 ∧ 2 < ((NN w h d c).length : Int)) (grd (-((NN w h d c).length : Int) ≤ 3 ∧ 3 < ((NN w h d c).length : Int)) (Rx.bind (F_Format___init__ (itD (NN w h d c) 0) (itD (NN w h d c) 1) (itD (NN w h d c) 2) (itD (NN w h d c) 3)) _))))) _
  rw [e0, e1, e2, e3]
  refine Gv.grd (gn4 _ _ _ _ _ (by decide)) (Gv.grd (gn4 _ _ _ _ _ (by decide)) (Gv.grd (gn4 _ _ _ _ _ (by decide)) (Gv.grd (gn4 _ _ _ _ _ (by decide)) (Gv.bind_eq (fmt_ok hw hh hd hc) ?_))))
  refine Gv.grd (show -(2 ^ 62) ≤ refs ∧ refs < 2 ^ 62 by omega) ?_
  show Gv (Rx.bind (mapA (rng 0 (Int.toNat refs)) [] (fun x => noEr (F_law_c1 xs (NN w h d c) x))) _) _
  refine Gv.bind (mapA_ix (Q := fun _ R => Ref w h d c R) (fun i x hx => Gv.noEr ?_) (by rw [rng_len]; omega)) fun RS hRS => ?_
  · obtain ⟨rfl, _⟩ := rng_at hx
    unfold F_law_c1
    exact Gv.bind (cell _ (by omega)) fun cc _ => Gv.bind (reference_gv cc hw hh hd) fun R hR => .ok hR
  have hR : ∀ R ∈ RS, Ref w h d c R := fun R hR => by
    obtain ⟨j, hj⟩ := List.mem_iff_getElem?.mp hR
    exact hRS.2 j R hj
  have hl : (RS.length : Int) = refs := by rw [hRS.1, rng_len]; omega
  refine Gv.bind_eq (id_list (f := fun x => noEr (F_law_c2 x)) (by omega) fun R hr => ?_) ?_
  · unfold F_law_c2
    rw [copy_eq (hR R hr) hh]
    rfl
  have lc : (cutL xs (some 3) none).length ≤ 63 := by
    unfold cutL
    rw [List.length_take, List.length_drop]
    omega
  refine Gv.grd (by show 1 + (cutL xs (some 3) none).length ≤ 1000000; omega) (Gv.bind_eq (a := .go ()) (forR_unit fun z _ => b3_ok z hw hh hd hk hwt hH hl hR) ?_)
  exact .ok rfl

end Vx
namespace Vx
open PySem PySem.Spec PyProof.Rows L2
def topS (i : Nat) : Stmt := PySem.Challenge.pw_thaumatrope_k37_areas_predicted_by_motio.main.body.getD i (.Pass ⟨0, 0, 0, 0⟩)
abbrev s__law_draws : Stmt := topS 35
abbrev s__law_between : Stmt := topS 36
abbrev s__law_inter : Stmt := topS 48
abbrev s__require : Stmt := topS 30
abbrev s_Settings___init__ : Stmt := inClass (topS 28) 0
abbrev s__check_numbers : Stmt := topS 31
abbrev s__check_slots : Stmt := topS 32
abbrev s_PictureHeader___init__ : Stmt := inClass (topS 29) 0
abbrev s_Format___init__ : Stmt := inClass (topS 8) 0
abbrev s__law_header : Stmt := topS 49
abbrev s__law_cell : Stmt := topS 34
abbrev s__law_coded : Stmt := topS 44
abbrev s__law_plane : Stmt := topS 37
abbrev s__law_reference : Stmt := topS 45
abbrev s__law_copy : Stmt := topS 38
abbrev s__law_component : Stmt := topS 39
abbrev s__law_motion : Stmt := topS 40
abbrev s__law_at : Stmt := topS 41
abbrev s__law_eighth : Stmt := topS 43
abbrev s__law_quarter : Stmt := topS 42
abbrev s__law_rows : Stmt := topS 46
abbrev s__law_predict : Stmt := topS 47
abbrev s_clip : Stmt := topS 10
abbrev s__samples : Stmt := topS 15
abbrev s__weighted : Stmt := topS 16
abbrev s_quarter_area : Stmt := topS 13
abbrev s_eighth_area : Stmt := topS 14
abbrev s_Format_top : Stmt := inClass (topS 8) 4
abbrev s__predict_vector : Stmt := topS 20
abbrev s__mixed : Stmt := topS 21
abbrev s_predict_motion : Stmt := topS 19
abbrev s_law : Stmt := topS 50
structure Ads where
  td_PictureHeader___init___store : Addr
  td_PictureHeader___init___refs : Addr
  c_Format : Addr
  c_Settings : Addr
  c_PictureHeader : Addr
  x_CodecError : Addr
  x_BadFormat : Addr
  x_OutOfRange : Addr
  x_BadHeader : Addr
  t_KINDS : Addr
  t_REF_COUNTS : Addr
  t_REF_COUNTS_0 : Addr
  t_REF_COUNTS_1 : Addr
  t_REF_COUNTS_2 : Addr
  t_WEIGHTS : Addr
  t_WEIGHTS_0 : Addr
  t_WEIGHTS_1 : Addr
  t_WEIGHTS_2 : Addr
  t_WEIGHTS_3 : Addr
  z0 : Addr
def excA (AD : Ads) : Nat → Addr
  | 0 => AD.x_CodecError
  | 1 => AD.x_BadFormat
  | 2 => AD.x_OutOfRange
  | 3 => AD.x_BadHeader
  | _ => AD.z0
structure Txt (w : World) (K : PySem.W.Frag) (mg : Str → Option Value) (AD : Ads) : Prop where
  b_abs : mg "abs" = none
  b_int : mg "int" = none
  b_min : mg "min" = none
  g_GREATEST_NUMBER : ∃ u, mg "GREATEST_NUMBER" = some u ∧ RelV (V.int 999) u
  g_KINDS : ∃ u, mg "KINDS" = some u ∧ RelV (V.ref AD.t_KINDS) u
  ts_KINDS : ∀ H, SqT K H AD.t_KINDS ((["I", "P", "B"] : List Str).map V.str)
  g_GREATEST_LEVEL : ∃ u, mg "GREATEST_LEVEL" = some u ∧ RelV (V.int 31) u
  g_EVEN_WEIGHT : ∃ u, mg "EVEN_WEIGHT" = some u ∧ RelV (V.int 8) u
  b_sorted : mg "sorted" = none
  b_set : mg "set" = none
  g_REF_COUNTS : ∃ u, mg "REF_COUNTS" = some u ∧ RelV (V.ref AD.t_REF_COUNTS) u
  kd_REF_COUNTS : KDA K w AD.t_REF_COUNTS ([("I", AD.t_REF_COUNTS_0), ("P", AD.t_REF_COUNTS_1), ("B", AD.t_REF_COUNTS_2)] : List (Str × Addr))
  th_REF_COUNTS : ∀ z, hasG ([("I", [0]), ("P", [1, 2]), ("B", [2])] : List (Str × List Int)) z = true → hasG ([("I", AD.t_REF_COUNTS_0), ("P", AD.t_REF_COUNTS_1), ("B", AD.t_REF_COUNTS_2)] : List (Str × Addr)) z = true
  tt_REF_COUNTS : ∀ z, hasG ([("I", [0]), ("P", [1, 2]), ("B", [2])] : List (Str × List Int)) z = true → ∀ H, SqT K H (dictG ([("I", AD.t_REF_COUNTS_0), ("P", AD.t_REF_COUNTS_1), ("B", AD.t_REF_COUNTS_2)] : List (Str × Addr)) z) ((dictG ([("I", [0]), ("P", [1, 2]), ("B", [2])] : List (Str × List Int)) z).map V.int)
  b_len : mg "len" = none
  b_list : mg "list" = none
  b_range : mg "range" = none
  b_max : mg "max" = none
  b_sum : mg "sum" = none
  b_zip : mg "zip" = none
  g_WEIGHTS : ∃ u, mg "WEIGHTS" = some u ∧ RelV (V.ref AD.t_WEIGHTS) u
  ts_WEIGHTS : ∀ H, SqT K H AD.t_WEIGHTS (([AD.t_WEIGHTS_0, AD.t_WEIGHTS_1, AD.t_WEIGHTS_2, AD.t_WEIGHTS_3] : List Addr).map V.ref)
  tt_WEIGHTS : ∀ k : Int, 0 ≤ k → k < 4 → ∀ H, SqT K H (itD ([AD.t_WEIGHTS_0, AD.t_WEIGHTS_1, AD.t_WEIGHTS_2, AD.t_WEIGHTS_3] : List Addr) k) ((itD ([[0, 0, 64, 0, 0, 0], [1, -5, 52, 20, -5, 1], [2, -10, 40, 40, -10, 2], [1, -5, 20, 52, -5, 1]] : List (List Int)) k).map V.int)
  g_WHOLE_WEIGHT : ∃ u, mg "WHOLE_WEIGHT" = some u ∧ RelV (V.int 16) u
  b_isinstance : mg "isinstance" = none
  td_PictureHeader___init___store : ∀ H, SqT K H AD.td_PictureHeader___init___store (([] : List Int).map V.int)
  td_PictureHeader___init___refs : ∀ H, SqT K H AD.td_PictureHeader___init___refs (([] : List Int).map V.int)
  cl_Settings : Cls K AD.c_Settings
  n_Settings_fmt : NoAttr K AD.c_Settings "fmt"
  n_Settings_slots : NoAttr K AD.c_Settings "slots"
  n_Settings_rows : NoAttr K AD.c_Settings "rows"
  n_Settings_deblock : NoAttr K AD.c_Settings "deblock"
  n_Settings_offset : NoAttr K AD.c_Settings "offset"
  n_Settings_layers : NoAttr K AD.c_Settings "layers"
  cl_PictureHeader : Cls K AD.c_PictureHeader
  n_PictureHeader_number : NoAttr K AD.c_PictureHeader "number"
  n_PictureHeader_kind : NoAttr K AD.c_PictureHeader "kind"
  n_PictureHeader_level : NoAttr K AD.c_PictureHeader "level"
  n_PictureHeader_store : NoAttr K AD.c_PictureHeader "store"
  n_PictureHeader_refs : NoAttr K AD.c_PictureHeader "refs"
  n_PictureHeader_weight : NoAttr K AD.c_PictureHeader "weight"
  n_PictureHeader_layer : NoAttr K AD.c_PictureHeader "layer"
  n_PictureHeader_shown : NoAttr K AD.c_PictureHeader "shown"
  n_PictureHeader_edge : NoAttr K AD.c_PictureHeader "edge"
  cl_Format : Cls K AD.c_Format
  n_Format_width : NoAttr K AD.c_Format "width"
  n_Format_height : NoAttr K AD.c_Format "height"
  n_Format_depth : NoAttr K AD.c_Format "depth"
  n_Format_chroma : NoAttr K AD.c_Format "chroma"
  xg_BadHeader : mg "BadHeader" = some (.ref AD.x_BadHeader)
  xx_BadHeader : PySem.W.excIn K AD.x_BadHeader [.type "ValueError", .type "Exception", .type "BaseException", .type "object"] "ValueError.__new__" = true
  xk_BadHeader : PySem.W.keepIn K (.ref AD.x_BadHeader) = true
  xb_BadHeader : PySem.W.subIn K (.ref AD.x_BadHeader) (.type "BaseException") = some true
  xt_BadHeader : PySem.W.typeIn K (.ref AD.x_BadHeader) = some (.type "type")
  xg_BadFormat : mg "BadFormat" = some (.ref AD.x_BadFormat)
  xx_BadFormat : PySem.W.excIn K AD.x_BadFormat [.type "ValueError", .type "Exception", .type "BaseException", .type "object"] "ValueError.__new__" = true
  xk_BadFormat : PySem.W.keepIn K (.ref AD.x_BadFormat) = true
  xb_BadFormat : PySem.W.subIn K (.ref AD.x_BadFormat) (.type "BaseException") = some true
  xt_BadFormat : PySem.W.typeIn K (.ref AD.x_BadFormat) = some (.type "type")
abbrev pat__law_draws_0 : Pat := (2, [], fun vs _ => vs)
abbrev pats__law_draws : List Pat := [pat__law_draws_0]
abbrev pat__law_between_0 : Pat := (4, [], fun vs _ => vs)
abbrev pats__law_between : List Pat := [pat__law_between_0]
abbrev pat__law_inter_0 : Pat := (1, [], fun vs _ => vs)
abbrev pats__law_inter : List Pat := [pat__law_inter_0]
abbrev pat__require_0 : Pat := (2, [], fun vs _ => vs)
abbrev pats__require : List Pat := [pat__require_0]
def gk_Settings___init___0 {α : Type} (us mz ws : List α) : List α := match us, mz, ws with | [a0, a1], [m0, m1, m2, m3], [b0] => [a0, a1, b0, m0, m1, m2, m3] | _, _, _ => []
theorem gknil_Settings___init___0 {α : Type} {us mz ws : List α} (h : us.length ≠ 2 ∨ mz.length ≠ 4 ∨ ws.length ≠ 1) : gk_Settings___init___0 us mz ws = [] := by
  unfold gk_Settings___init___0
  split
  · simp at h
  · rfl
theorem gkrel_Settings___init___0 {vs mz zs : List V} {us mv ws : List Value} (r : Vals vs us) (s : Vals mz mv) (q : Vals zs ws) : Vals (gk_Settings___init___0 vs mz zs) (gk_Settings___init___0 us mv ws) := by
  by_cases h1 : vs.length = 2
  · by_cases h2 : mz.length = 4
    · by_cases h3 : zs.length = 1
      · obtain ⟨a0, a1, rfl⟩ := len2 h1
        obtain ⟨m0, m1, m2, m3, rfl⟩ := len4 h2
        obtain ⟨b0, rfl⟩ := len1 h3
        cases r with | cons r0 r =>
          cases r with | cons r1 r =>
            cases r
            cases s with | cons s0 s =>
              cases s with | cons s1 s =>
                cases s with | cons s2 s =>
                  cases s with | cons s3 s =>
                    cases s
                    cases q with | cons q0 q =>
                      cases q
                      exact (.cons r0 (.cons r1 (.cons q0 (.cons s0 (.cons s1 (.cons s2 (.cons s3 .nil)))))))
      · have k : ws.length ≠ 1 := fun z => h3 (q.length.trans z)
        rw [gknil_Settings___init___0 (by first | exact .inl h3 | exact .inr (.inl h3) | exact .inr (.inr h3)), gknil_Settings___init___0 (by first | exact .inl k | exact .inr (.inl k) | exact .inr (.inr k))]
        exact .nil
    · have k : mv.length ≠ 4 := fun z => h2 (s.length.trans z)
      rw [gknil_Settings___init___0 (by first | exact .inl h2 | exact .inr (.inl h2) | exact .inr (.inr h2)), gknil_Settings___init___0 (by first | exact .inl k | exact .inr (.inl k) | exact .inr (.inr k))]
      exact .nil
  · have k : us.length ≠ 2 := fun z => h1 (r.length.trans z)
    rw [gknil_Settings___init___0 (by first | exact .inl h1 | exact .inr (.inl h1) | exact .inr (.inr h1)), gknil_Settings___init___0 (by first | exact .inl k | exact .inr (.inl k) | exact .inr (.inr k))]
    exact .nil
abbrev pat_Settings___init___0 : Pat := (2, ["slots"], fun vs zs => gk_Settings___init___0 vs [V.int 1, V.bl false, V.bl false, V.int 1] zs)
abbrev pats_Settings___init__ : List Pat := [pat_Settings___init___0]
abbrev pat__check_numbers_0 : Pat := (2, [], fun vs _ => vs)
abbrev pats__check_numbers : List Pat := [pat__check_numbers_0]
abbrev pat__check_slots_0 : Pat := (2, [], fun vs _ => vs)
abbrev pats__check_slots : List Pat := [pat__check_slots_0]
def gk_PictureHeader___init___0 {α : Type} (us mz ws : List α) : List α := match us, mz, ws with | [a0, a1], [m0, m1, m2, m3, m4], [b0, b1, b2, b3] => [a0, a1, b0, b1, m0, m1, b2, b3, m2, m3, m4] | _, _, _ => []
theorem gknil_PictureHeader___init___0 {α : Type} {us mz ws : List α} (h : us.length ≠ 2 ∨ mz.length ≠ 5 ∨ ws.length ≠ 4) : gk_PictureHeader___init___0 us mz ws = [] := by
  unfold gk_PictureHeader___init___0
  split
  · simp at h
  · rfl
theorem gkrel_PictureHeader___init___0 {vs mz zs : List V} {us mv ws : List Value} (r : Vals vs us) (s : Vals mz mv) (q : Vals zs ws) : Vals (gk_PictureHeader___init___0 vs mz zs) (gk_PictureHeader___init___0 us mv ws) := by
  by_cases h1 : vs.length = 2
  · by_cases h2 : mz.length = 5
    · by_cases h3 : zs.length = 4
      · obtain ⟨a0, a1, rfl⟩ := len2 h1
        obtain ⟨m0, m1, m2, m3, m4, rfl⟩ := len5 h2
        obtain ⟨b0, b1, b2, b3, rfl⟩ := len4 h3
        cases r with | cons r0 r =>
          cases r with | cons r1 r =>
            cases r
            cases s with | cons s0 s =>
              cases s with | cons s1 s =>
                cases s with | cons s2 s =>
                  cases s with | cons s3 s =>
                    cases s with | cons s4 s =>
                      cases s
                      cases q with | cons q0 q =>
                        cases q with | cons q1 q =>
                          cases q with | cons q2 q =>
                            cases q with | cons q3 q =>
                              cases q
                              exact (.cons r0 (.cons r1 (.cons q0 (.cons q1 (.cons s0 (.cons s1 (.cons q2 (.cons q3 (.cons s2 (.cons s3 (.cons s4 .nil)))))))))))
      · have k : ws.length ≠ 4 := fun z => h3 (q.length.trans z)
        rw [gknil_PictureHeader___init___0 (by first | exact .inl h3 | exact .inr (.inl h3) | exact .inr (.inr h3)), gknil_PictureHeader___init___0 (by first | exact .inl k | exact .inr (.inl k) | exact .inr (.inr k))]
        exact .nil
    · have k : mv.length ≠ 5 := fun z => h2 (s.length.trans z)
      rw [gknil_PictureHeader___init___0 (by first | exact .inl h2 | exact .inr (.inl h2) | exact .inr (.inr h2)), gknil_PictureHeader___init___0 (by first | exact .inl k | exact .inr (.inl k) | exact .inr (.inr k))]
      exact .nil
  · have k : us.length ≠ 2 := fun z => h1 (r.length.trans z)
    rw [gknil_PictureHeader___init___0 (by first | exact .inl h1 | exact .inr (.inl h1) | exact .inr (.inr h1)), gknil_PictureHeader___init___0 (by first | exact .inl k | exact .inr (.inl k) | exact .inr (.inr k))]
    exact .nil
abbrev pat_PictureHeader___init___0 (AD : Ads) : Pat := (2, ["number", "kind", "refs", "weight"], fun vs zs => gk_PictureHeader___init___0 vs [V.int 0, V.ref AD.td_PictureHeader___init___store, V.int 0, V.bl true, V.int 0] zs)
abbrev pats_PictureHeader___init__ (AD : Ads) : List Pat := [pat_PictureHeader___init___0 AD]
abbrev pat_Format___init___0 : Pat := (3, ["depth", "chroma"], fun vs zs => match vs, zs with | [a0, a1, a2], [b0, b1] => [a0, a1, a2, b0, b1] | _, _ => [])
abbrev pats_Format___init__ : List Pat := [pat_Format___init___0]
abbrev pat__law_header_0 : Pat := (4, [], fun vs _ => vs)
abbrev pats__law_header : List Pat := [pat__law_header_0]
abbrev pat__law_cell_0 : Pat := (2, [], fun vs _ => vs)
abbrev pats__law_cell : List Pat := [pat__law_cell_0]
abbrev pat__law_coded_0 : Pat := (2, [], fun vs _ => vs)
abbrev pats__law_coded : List Pat := [pat__law_coded_0]
abbrev pat__law_plane_0 : Pat := (4, [], fun vs _ => vs)
abbrev pats__law_plane : List Pat := [pat__law_plane_0]
abbrev pat__law_reference_0 : Pat := (2, [], fun vs _ => vs)
abbrev pats__law_reference : List Pat := [pat__law_reference_0]
abbrev pat__law_copy_0 : Pat := (1, [], fun vs _ => vs)
abbrev pats__law_copy : List Pat := [pat__law_copy_0]
abbrev pat__law_component_0 : Pat := (2, [], fun vs _ => vs)
abbrev pats__law_component : List Pat := [pat__law_component_0]
abbrev pat__law_motion_0 : Pat := (3, [], fun vs _ => vs)
abbrev pats__law_motion : List Pat := [pat__law_motion_0]
abbrev pat__law_at_0 : Pat := (3, [], fun vs _ => vs)
abbrev pats__law_at : List Pat := [pat__law_at_0]
abbrev pat__law_eighth_0 : Pat := (3, [], fun vs _ => vs)
abbrev pats__law_eighth : List Pat := [pat__law_eighth_0]
abbrev pat__law_quarter_0 : Pat := (4, [], fun vs _ => vs)
abbrev pats__law_quarter : List Pat := [pat__law_quarter_0]
abbrev pat__law_rows_0 : Pat := (5, [], fun vs _ => vs)
abbrev pats__law_rows : List Pat := [pat__law_rows_0]
abbrev pat__law_predict_0 : Pat := (7, [], fun vs _ => vs)
abbrev pats__law_predict : List Pat := [pat__law_predict_0]
abbrev pat_clip_0 : Pat := (3, [], fun vs _ => vs)
abbrev pats_clip : List Pat := [pat_clip_0]
abbrev pat__samples_0 : Pat := (5, [], fun vs _ => vs)
abbrev pats__samples : List Pat := [pat__samples_0]
abbrev pat__weighted_0 : Pat := (2, [], fun vs _ => vs)
abbrev pats__weighted : List Pat := [pat__weighted_0]
abbrev pat_quarter_area_0 : Pat := (5, ["top"], fun vs zs => match vs, zs with | [a0, a1, a2, a3, a4], [b0] => [a0, a1, a2, a3, a4, b0] | _, _ => [])
abbrev pats_quarter_area : List Pat := [pat_quarter_area_0]
abbrev pat_eighth_area_0 : Pat := (5, ["top"], fun vs zs => match vs, zs with | [a0, a1, a2, a3, a4], [b0] => [a0, a1, a2, a3, a4, b0] | _, _ => [])
abbrev pats_eighth_area : List Pat := [pat_eighth_area_0]
abbrev pats_Format_top : List Pat := []
abbrev pat__predict_vector_0 : Pat := (8, [], fun vs _ => vs)
abbrev pats__predict_vector : List Pat := [pat__predict_vector_0]
abbrev pat__mixed_0 : Pat := (3, [], fun vs _ => vs)
abbrev pats__mixed : List Pat := [pat__mixed_0]
abbrev pat_predict_motion_0 : Pat := (9, [], fun vs _ => vs)
abbrev pats_predict_motion : List Pat := [pat_predict_motion_0]
abbrev pats_law : List Pat := []
def sp__law_draws (K : PySem.W.Frag) (AD : Ads) : Sp := fun vs H Q E => ∃ (G : Hp) (cell' : Int) (a_limits : Addr) (limits' : List Int), vs = [.int cell', .ref a_limits] ∧ Same G H ∧ (hideL [] H) a_limits = some (.lst ((limits' : List Int).map V.int)) ∧ cW (F__law_draws cell' limits') (fun v => ∀ p H', H p = none → Same H H' → H' p = some (.lst (v.map V.int)) → Q (.ref p) H') (fun e => ∀ H', Same H H' → E (.ref (excA AD e)) none H')
def sp__law_between (K : PySem.W.Frag) (AD : Ads) : Sp := fun vs H Q E => ∃ (G : Hp) (first' : Int) (second' : Int) (low' : Int) (high' : Int), vs = [.int first', .int second', .int low', .int high'] ∧ Same G H ∧ cW (F__law_between first' second' low' high') (fun v => Q (.int v) H) (fun e => E (.ref (excA AD e)) none H)
def sp__law_inter (K : PySem.W.Frag) (AD : Ads) : Sp := fun vs H Q E => ∃ (G : Hp) (cell' : Int), vs = [.int cell'] ∧ Same G H ∧ cW (F__law_inter cell') (fun v => ∀ u H' G', Same H H' → Same G G' → Same G' H' → (∀ b, H b ≠ none → G b = none → G' b = none) → Rp G' u ((encT4 (encL PyData.int) PyData.int PyData.int PyData.int) v) → Q u H') (fun e => ∀ H', Same H H' → E (.ref (excA AD e)) none H')
def sp__require (K : PySem.W.Frag) (AD : Ads) : Sp := fun vs H Q E => ∃ (G : Hp) (holds' : Bool) (text' : Str), vs = [.bl holds', .str text'] ∧ Same G H ∧ cW (F__require holds' text') (fun v => Q .non H) (fun e => E (.ref (excA AD e)) none H)
def sp_Settings___init__ (K : PySem.W.Frag) (AD : Ads) : Sp := fun vs H Q E => ∃ (G : Hp) (p_self dx_self : Addr) (p_fmt dx_fmt : Addr) (fmt' : St_Format) (slots' : Int) (rows' : Int) (deblock' : Bool) (offset' : Bool) (layers' : Int), vs = [.ref p_self, .ref p_fmt, .int slots', .int rows', .bl deblock', .bl offset', .int layers'] ∧ Same G H ∧ (∀ a ∈ [p_self], G a = none) ∧ H p_self = some (.ins AD.c_Settings dx_self []) ∧ (hideL [p_self] H) p_fmt = some (.ins AD.c_Format dx_fmt [("width", V.int fmt'.width), ("height", V.int fmt'.height), ("depth", V.int fmt'.depth), ("chroma", V.int fmt'.chroma)]) ∧ cW (F_Settings___init__ fmt' slots' rows' deblock' offset' layers') (fun v => ∀ (H' : Hp), SameX p_self H H' → H' p_self = some (.ins AD.c_Settings dx_self [("fmt", V.ref p_fmt), ("slots", V.int v.slots), ("rows", V.int v.rows), ("deblock", V.bl v.deblock), ("offset", V.bl v.offset), ("layers", V.int v.layers)]) → Q .non H') (fun e => ∀ H', SameX p_self H H' → E (.ref (excA AD e)) none H')
def sp__check_numbers (K : PySem.W.Frag) (AD : Ads) : Sp := fun vs H Q E => ∃ (G : Hp) (p_settings p_settings_fmt dx_settings dx_settings_fmt : Addr) (settings' : St_Settings) (p_header l_header_store l_header_refs dx_header : Addr) (header' : St_PictureHeader), vs = [.ref p_settings, .ref p_header] ∧ Same G H ∧ (hideL [] H) p_settings = some (.ins AD.c_Settings dx_settings [("fmt", V.ref p_settings_fmt), ("slots", V.int settings'.slots), ("rows", V.int settings'.rows), ("deblock", V.bl settings'.deblock), ("offset", V.bl settings'.offset), ("layers", V.int settings'.layers)]) ∧ (hideL [] H) p_settings_fmt = some (.ins AD.c_Format dx_settings_fmt [("width", V.int settings'.fmt.width), ("height", V.int settings'.fmt.height), ("depth", V.int settings'.fmt.depth), ("chroma", V.int settings'.fmt.chroma)]) ∧ (hideL [] H) p_header = some (.ins AD.c_PictureHeader dx_header [("number", V.int header'.number), ("kind", V.str header'.kind), ("level", V.int header'.level), ("store", V.ref l_header_store), ("refs", V.ref l_header_refs), ("weight", V.int header'.weight), ("layer", V.int header'.layer), ("shown", V.bl header'.shown), ("edge", V.int header'.edge)]) ∧ (hideL [] H) l_header_store = some (.lst ((header'.store : (List Int)).map V.int)) ∧ (hideL [] H) l_header_refs = some (.lst ((header'.refs : (List Int)).map V.int)) ∧ cW (F__check_numbers settings' header') (fun v => ∀ H', Same H H' → Q .non H') (fun e => ∀ H', Same H H' → E (.ref (excA AD e)) none H')
def sp__check_slots (K : PySem.W.Frag) (AD : Ads) : Sp := fun vs H Q E => ∃ (G : Hp) (p_settings p_settings_fmt dx_settings dx_settings_fmt : Addr) (settings' : St_Settings) (p_header l_header_store l_header_refs dx_header : Addr) (header' : St_PictureHeader), vs = [.ref p_settings, .ref p_header] ∧ Same G H ∧ (hideL [] H) p_settings = some (.ins AD.c_Settings dx_settings [("fmt", V.ref p_settings_fmt), ("slots", V.int settings'.slots), ("rows", V.int settings'.rows), ("deblock", V.bl settings'.deblock), ("offset", V.bl settings'.offset), ("layers", V.int settings'.layers)]) ∧ (hideL [] H) p_settings_fmt = some (.ins AD.c_Format dx_settings_fmt [("width", V.int settings'.fmt.width), ("height", V.int settings'.fmt.height), ("depth", V.int settings'.fmt.depth), ("chroma", V.int settings'.fmt.chroma)]) ∧ (hideL [] H) p_header = some (.ins AD.c_PictureHeader dx_header [("number", V.int header'.number), ("kind", V.str header'.kind), ("level", V.int header'.level), ("store", V.ref l_header_store), ("refs", V.ref l_header_refs), ("weight", V.int header'.weight), ("layer", V.int header'.layer), ("shown", V.bl header'.shown), ("edge", V.int header'.edge)]) ∧ (hideL [] H) l_header_store = some (.lst ((header'.store : (List Int)).map V.int)) ∧ (hideL [] H) l_header_refs = some (.lst ((header'.refs : (List Int)).map V.int)) ∧ cW (F__check_slots settings' header') (fun v => ∀ H', Same H H' → Q .non H') (fun e => ∀ H', Same H H' → E (.ref (excA AD e)) none H')
def sp_PictureHeader___init__ (K : PySem.W.Frag) (AD : Ads) : Sp := fun vs H Q E => ∃ (G : Hp) (p_self dx_self : Addr) (p_settings p_settings_fmt dx_settings dx_settings_fmt : Addr) (settings' : St_Settings) (number' : Int) (kind' : Str) (level' : Int) (v_store : V) (store' : (List Int)) (v_refs : V) (refs' : (List Int)) (weight' : Int) (layer' : Int) (shown' : Bool) (edge' : Int), vs = [.ref p_self, .ref p_settings, .int number', .str kind', .int level', v_store, v_refs, .int weight', .int layer', .bl shown', .int edge'] ∧ Same G H ∧ (∀ a ∈ [p_self], G a = none) ∧ H p_self = some (.ins AD.c_PictureHeader dx_self []) ∧ (hideL [p_self] H) p_settings = some (.ins AD.c_Settings dx_settings [("fmt", V.ref p_settings_fmt), ("slots", V.int settings'.slots), ("rows", V.int settings'.rows), ("deblock", V.bl settings'.deblock), ("offset", V.bl settings'.offset), ("layers", V.int settings'.layers)]) ∧ (hideL [p_self] H) p_settings_fmt = some (.ins AD.c_Format dx_settings_fmt [("width", V.int settings'.fmt.width), ("height", V.int settings'.fmt.height), ("depth", V.int settings'.fmt.depth), ("chroma", V.int settings'.fmt.chroma)]) ∧ SeqI K (hideL [p_self] H) v_store store' ∧ SeqI K (hideL [p_self] H) v_refs refs' ∧ cW (F_PictureHeader___init__ settings' number' kind' level' store' refs' weight' layer' shown' edge') (fun v => ∀ (H' : Hp) (l_store l_refs : Addr), SameX p_self H H' → H l_store = none → H l_refs = none → l_store ≠ l_refs → H' p_self = some (.ins AD.c_PictureHeader dx_self [("number", V.int v.number), ("kind", V.str v.kind), ("level", V.int v.level), ("store", V.ref l_store), ("refs", V.ref l_refs), ("weight", V.int v.weight), ("layer", V.int v.layer), ("shown", V.bl v.shown), ("edge", V.int v.edge)]) → H' l_store = some (.lst (v.store.map V.int)) → H' l_refs = some (.lst (v.refs.map V.int)) → Q .non H') (fun e => ∀ H', SameX p_self H H' → E (.ref (excA AD e)) none H')
def sp_Format___init__ (K : PySem.W.Frag) (AD : Ads) : Sp := fun vs H Q E => ∃ (G : Hp) (p_self dx_self : Addr) (width' : Int) (height' : Int) (depth' : Int) (chroma' : Int), vs = [.ref p_self, .int width', .int height', .int depth', .int chroma'] ∧ Same G H ∧ (∀ a ∈ [p_self], G a = none) ∧ H p_self = some (.ins AD.c_Format dx_self []) ∧ cW (F_Format___init__ width' height' depth' chroma') (fun v => ∀ (H' : Hp), SameX p_self H H' → H' p_self = some (.ins AD.c_Format dx_self [("width", V.int v.width), ("height", V.int v.height), ("depth", V.int v.depth), ("chroma", V.int v.chroma)]) → Q .non H') (fun e => ∀ H', SameX p_self H H' → E (.ref (excA AD e)) none H')
def sp__law_header (K : PySem.W.Frag) (AD : Ads) : Sp := fun vs H Q E => ∃ (G : Hp) (a_n : Addr) (n' : List Int) (kind' : Int) (refs' : Int) (weight' : Int), vs = [.ref a_n, .int kind', .int refs', .int weight'] ∧ Same G H ∧ (hideL [] H) a_n = some (.lst ((n' : List Int).map V.int)) ∧ cW (F__law_header n' kind' refs' weight') (fun v => ∀ (H' : Hp) (p_ret l_ret_store l_ret_refs dx_ret : Addr), Same H H' → H p_ret = none → H l_ret_store = none → H l_ret_refs = none → l_ret_store ≠ l_ret_refs → H' p_ret = some (.ins AD.c_PictureHeader dx_ret [("number", V.int v.number), ("kind", V.str v.kind), ("level", V.int v.level), ("store", V.ref l_ret_store), ("refs", V.ref l_ret_refs), ("weight", V.int v.weight), ("layer", V.int v.layer), ("shown", V.bl v.shown), ("edge", V.int v.edge)]) → H' l_ret_store = some (.lst ((v.store : (List Int)).map V.int)) → H' l_ret_refs = some (.lst ((v.refs : (List Int)).map V.int)) → Q (.ref p_ret) H') (fun e => ∀ H', Same H H' → E (.ref (excA AD e)) none H')
def sp__law_cell (K : PySem.W.Frag) (AD : Ads) : Sp := fun vs H Q E => ∃ (G : Hp) (a_script : Addr) (script' : List Int) (k' : Int), vs = [.ref a_script, .int k'] ∧ Same G H ∧ SqL K H a_script ((script' : List Int).map V.int) ∧ cW (F__law_cell script' k') (fun v => Q (.int v) H) (fun e => E (.ref (excA AD e)) none H)
def sp__law_coded (K : PySem.W.Frag) (AD : Ads) : Sp := fun vs H Q E => ∃ (G : Hp) (a_n : Addr) (n' : List Int) (plane' : Int), vs = [.ref a_n, .int plane'] ∧ Same G H ∧ (hideL [] H) a_n = some (.lst ((n' : List Int).map V.int)) ∧ cW (F__law_coded n' plane') (fun v => ∀ u H' G', Same H H' → Same G G' → Same G' H' → (∀ b, H b ≠ none → G b = none → G' b = none) → Rp G' u ((encT2 PyData.int PyData.int) v) → Q u H') (fun e => ∀ H', Same H H' → E (.ref (excA AD e)) none H')
def sp__law_plane (K : PySem.W.Frag) (AD : Ads) : Sp := fun vs H Q E => ∃ (G : Hp) (cell' : Int) (width' : Int) (height' : Int) (top' : Int), vs = [.int cell', .int width', .int height', .int top'] ∧ Same G H ∧ cW (F__law_plane cell' width' height' top') (fun v => ∀ u H' G', Same H H' → Same G G' → Same G' H' → (∀ b, H b ≠ none → G b = none → G' b = none) → Rp G' u ((encL (encL PyData.int)) v) → Q u H') (fun e => ∀ H', Same H H' → E (.ref (excA AD e)) none H')
def sp__law_reference (K : PySem.W.Frag) (AD : Ads) : Sp := fun vs H Q E => ∃ (G : Hp) (cell' : Int) (a_n : Addr) (n' : List Int), vs = [.int cell', .ref a_n] ∧ Same G H ∧ (hideL [] H) a_n = some (.lst ((n' : List Int).map V.int)) ∧ cW (F__law_reference cell' n') (fun v => ∀ u H' G', Same H H' → Same G G' → Same G' H' → (∀ b, H b ≠ none → G b = none → G' b = none) → Rp G' u ((encL (encL (encL PyData.int))) v) → Q u H') (fun e => ∀ H', Same H H' → E (.ref (excA AD e)) none H')
def sp__law_copy (K : PySem.W.Frag) (AD : Ads) : Sp := fun vs H Q E => ∃ (G : Hp) (v_planes : V) (planes' : (List (List (List Int)))), vs = [v_planes] ∧ Same G H ∧ Rp (hideL [] H) v_planes ((encL (encL (encL PyData.int))) planes') ∧ cW (F__law_copy planes') (fun v => ∀ u H' G', Same H H' → Same G G' → Same G' H' → (∀ b, H b ≠ none → G b = none → G' b = none) → Rp G' u ((encL (encL (encL PyData.int))) v) → Q u H') (fun e => ∀ H', Same H H' → E (.ref (excA AD e)) none H')
def sp__law_component (K : PySem.W.Frag) (AD : Ads) : Sp := fun vs H Q E => ∃ (G : Hp) (first' : Int) (second' : Int), vs = [.int first', .int second'] ∧ Same G H ∧ cW (F__law_component first' second') (fun v => ∀ H', Same H H' → Q (.int v) H') (fun e => ∀ H', Same H H' → E (.ref (excA AD e)) none H')
def sp__law_motion (K : PySem.W.Frag) (AD : Ads) : Sp := fun vs H Q E => ∃ (G : Hp) (cell' : Int) (kind' : Int) (refs' : Int), vs = [.int cell', .int kind', .int refs'] ∧ Same G H ∧ cW (F__law_motion cell' kind' refs') (fun v => ∀ u H' G', Same H H' → Same G G' → Same G' H' → (∀ b, H b ≠ none → G b = none → G' b = none) → Rp G' u ((encT4 PyData.int PyData.int encD encD) v) → Q u H') (fun e => ∀ H', Same H H' → E (.ref (excA AD e)) none H')
def sp__law_at (K : PySem.W.Frag) (AD : Ads) : Sp := fun vs H Q E => ∃ (G : Hp) (v_plane : V) (plane' : (List (List Int))) (x' : Int) (y' : Int), vs = [v_plane, .int x', .int y'] ∧ Same G H ∧ Rp (hideL [] H) v_plane ((encL (encL PyData.int)) plane') ∧ cW (F__law_at plane' x' y') (fun v => Q (.int v) H) (fun e => E (.ref (excA AD e)) none H)
def sp__law_eighth (K : PySem.W.Frag) (AD : Ads) : Sp := fun vs H Q E => ∃ (G : Hp) (v_plane : V) (plane' : (List (List Int))) (x' : Int) (y' : Int), vs = [v_plane, .int x', .int y'] ∧ Same G H ∧ Rp (hideL [] H) v_plane ((encL (encL PyData.int)) plane') ∧ cW (F__law_eighth plane' x' y') (fun v => Q (.int v) H) (fun e => E (.ref (excA AD e)) none H)
def sp__law_quarter (K : PySem.W.Frag) (AD : Ads) : Sp := fun vs H Q E => ∃ (G : Hp) (v_plane : V) (plane' : (List (List Int))) (x' : Int) (y' : Int) (top' : Int), vs = [v_plane, .int x', .int y', .int top'] ∧ Same G H ∧ Rp (hideL [] H) v_plane ((encL (encL PyData.int)) plane') ∧ cW (F__law_quarter plane' x' y' top') (fun v => ∀ H', Same H H' → Q (.int v) H') (fun e => ∀ H', Same H H' → E (.ref (excA AD e)) none H')
def sp__law_rows (K : PySem.W.Frag) (AD : Ads) : Sp := fun vs H Q E => ∃ (G : Hp) (v_planes : V) (planes' : (List (List (List Int)))) (plane' : Int) (v_vector : V) (vector' : (Int × Int)) (a_n : Addr) (n' : List Int) (v_place : V) (place' : (Int × Int × Int × Int)), vs = [v_planes, .int plane', v_vector, .ref a_n, v_place] ∧ Same G H ∧ Rp (hideL [] H) v_planes ((encL (encL (encL PyData.int))) planes') ∧ Rp (hideL [] H) v_vector ((encT2 PyData.int PyData.int) vector') ∧ (hideL [] H) a_n = some (.lst ((n' : List Int).map V.int)) ∧ Rp (hideL [] H) v_place ((encT4 PyData.int PyData.int PyData.int PyData.int) place') ∧ cW (F__law_rows planes' plane' vector' n' place') (fun v => ∀ u H' G', Same H H' → Same G G' → Same G' H' → (∀ b, H b ≠ none → G b = none → G' b = none) → Rp G' u ((encL (encL PyData.int)) v) → Q u H') (fun e => ∀ H', Same H H' → E (.ref (excA AD e)) none H')
def sp__law_predict (K : PySem.W.Frag) (AD : Ads) : Sp := fun vs H Q E => ∃ (G : Hp) (a_n : Addr) (n' : List Int) (kind' : Int) (weight' : Int) (v_motion : V) (motion' : (Int × Int × PyData × PyData)) (v_references : V) (references' : (List (List (List (List Int))))) (plane' : Int) (v_place : V) (place' : (Int × Int × Int × Int)), vs = [.ref a_n, .int kind', .int weight', v_motion, v_references, .int plane', v_place] ∧ Same G H ∧ (hideL [] H) a_n = some (.lst ((n' : List Int).map V.int)) ∧ Rp (hideL [] H) v_motion ((encT4 PyData.int PyData.int encD encD) motion') ∧ Rp (hideL [] H) v_references ((encL (encL (encL (encL PyData.int)))) references') ∧ Rp (hideL [] H) v_place ((encT4 PyData.int PyData.int PyData.int PyData.int) place') ∧ cW (F__law_predict n' kind' weight' motion' references' plane' place') (fun v => ∀ u H' G', Same H H' → Same G G' → Same G' H' → (∀ b, H b ≠ none → G b = none → G' b = none) → Rp G' u ((encL (encL PyData.int)) v) → Q u H') (fun e => ∀ H', Same H H' → E (.ref (excA AD e)) none H')
def sp_clip (K : PySem.W.Frag) (AD : Ads) : Sp := fun vs H Q E => ∃ (G : Hp) (value' : Int) (low' : Int) (high' : Int), vs = [.int value', .int low', .int high'] ∧ Same G H ∧ cW (F_clip value' low' high') (fun v => Q (.int v) H) (fun e => E (.ref (excA AD e)) none H)
def sp__samples (K : PySem.W.Frag) (AD : Ads) : Sp := fun vs H Q E => ∃ (G : Hp) (v_plane : V) (plane' : (List (List Int))) (x' : Int) (y' : Int) (width' : Int) (height' : Int), vs = [v_plane, .int x', .int y', .int width', .int height'] ∧ Same G H ∧ Rp (hideL [] H) v_plane ((encL (encL PyData.int)) plane') ∧ cW (F__samples plane' x' y' width' height') (fun v => ∀ (H' : Hp) (a : Addr) (vs : List V) (L : List Addr) (G' : Hp), H a = none → (∀ b ∈ L, H b = none) → (∀ b ∈ L, b ≠ a) → Same H H' → Same G G' → Same G' H' → (∀ b, H b ≠ none → G b = none → G' b = none) → G' a = none → (∀ b ∈ L, G' b = none) → H' a = some (.lst vs) → OwAll G' H' L vs ((v : (List (List Int))).map (oL oI)) → Q (.ref a) H') (fun e => ∀ H', Same H H' → E (.ref (excA AD e)) none H')
def sp__weighted (K : PySem.W.Frag) (AD : Ads) : Sp := fun vs H Q E => ∃ (G : Hp) (a_weights : Addr) (weights' : List Int) (v_lines : V) (lines' : (List (List Int))), vs = [.ref a_weights, v_lines] ∧ Same G H ∧ (∀ H, SqT K H a_weights ((weights' : List Int).map V.int)) ∧ Rp (hideL [] H) v_lines ((encL (encL PyData.int)) lines') ∧ cW (F__weighted weights' lines') (fun v => ∀ p H', H p = none → Same H H' → H' p = some (.lst (v.map V.int)) → Q (.ref p) H') (fun e => ∀ H', Same H H' → E (.ref (excA AD e)) none H')
def sp_quarter_area (K : PySem.W.Frag) (AD : Ads) : Sp := fun vs H Q E => ∃ (G : Hp) (v_plane : V) (plane' : (List (List Int))) (x' : Int) (y' : Int) (width' : Int) (height' : Int) (top' : Int), vs = [v_plane, .int x', .int y', .int width', .int height', .int top'] ∧ Same G H ∧ Rp (hideL [] H) v_plane ((encL (encL PyData.int)) plane') ∧ cW (F_quarter_area plane' x' y' width' height' top') (fun v => ∀ (H' : Hp) (a : Addr) (vs : List V) (L : List Addr) (G' : Hp), H a = none → (∀ b ∈ L, H b = none) → (∀ b ∈ L, b ≠ a) → Same H H' → Same G G' → Same G' H' → (∀ b, H b ≠ none → G b = none → G' b = none) → G' a = none → (∀ b ∈ L, G' b = none) → H' a = some (.lst vs) → OwAll G' H' L vs ((v : (List (List Int))).map (oL oI)) → Q (.ref a) H') (fun e => ∀ H', Same H H' → E (.ref (excA AD e)) none H')
def sp_eighth_area (K : PySem.W.Frag) (AD : Ads) : Sp := fun vs H Q E => ∃ (G : Hp) (v_plane : V) (plane' : (List (List Int))) (x' : Int) (y' : Int) (width' : Int) (height' : Int) (top' : Int), vs = [v_plane, .int x', .int y', .int width', .int height', .int top'] ∧ Same G H ∧ Rp (hideL [] H) v_plane ((encL (encL PyData.int)) plane') ∧ cW (F_eighth_area plane' x' y' width' height' top') (fun v => ∀ (H' : Hp) (a : Addr) (vs : List V) (L : List Addr) (G' : Hp), H a = none → (∀ b ∈ L, H b = none) → (∀ b ∈ L, b ≠ a) → Same H H' → Same G G' → Same G' H' → (∀ b, H b ≠ none → G b = none → G' b = none) → G' a = none → (∀ b ∈ L, G' b = none) → H' a = some (.lst vs) → OwAll G' H' L vs ((v : (List (List Int))).map (oL oI)) → Q (.ref a) H') (fun e => ∀ H', Same H H' → E (.ref (excA AD e)) none H')
def sp_Format_top (K : PySem.W.Frag) (AD : Ads) : Sp := fun vs H Q E => ∃ (G : Hp) (p_self dx_self : Addr) (self' : St_Format), vs = [.ref p_self] ∧ Same G H ∧ (hideL [] H) p_self = some (.ins AD.c_Format dx_self [("width", V.int self'.width), ("height", V.int self'.height), ("depth", V.int self'.depth), ("chroma", V.int self'.chroma)]) ∧ cW (F_Format_top self') (fun v => ∀ H', Same H H' → Q (.int v) H') (fun e => ∀ H', Same H H' → E (.ref (excA AD e)) none H')
def sp__predict_vector (K : PySem.W.Frag) (AD : Ads) : Sp := fun vs H Q E => ∃ (G : Hp) (p_fmt dx_fmt : Addr) (fmt' : St_Format) (v_vector : V) (vector' : (Int × Int)) (v_reference : V) (reference' : (List (List (List Int)))) (plane' : Int) (x' : Int) (y' : Int) (width' : Int) (height' : Int), vs = [.ref p_fmt, v_vector, v_reference, .int plane', .int x', .int y', .int width', .int height'] ∧ Same G H ∧ (hideL [] H) p_fmt = some (.ins AD.c_Format dx_fmt [("width", V.int fmt'.width), ("height", V.int fmt'.height), ("depth", V.int fmt'.depth), ("chroma", V.int fmt'.chroma)]) ∧ Rp (hideL [] H) v_vector ((encT2 PyData.int PyData.int) vector') ∧ Rp (hideL [] H) v_reference ((encL (encL (encL PyData.int))) reference') ∧ cW (F__predict_vector fmt' vector' reference' plane' x' y' width' height') (fun v => ∀ (H' : Hp) (a : Addr) (vs : List V) (L : List Addr) (G' : Hp), H a = none → (∀ b ∈ L, H b = none) → (∀ b ∈ L, b ≠ a) → Same H H' → Same G G' → Same G' H' → (∀ b, H b ≠ none → G b = none → G' b = none) → G' a = none → (∀ b ∈ L, G' b = none) → H' a = some (.lst vs) → OwAll G' H' L vs ((v : (List (List Int))).map (oL oI)) → Q (.ref a) H') (fun e => ∀ H', Same H H' → E (.ref (excA AD e)) none H')
def sp__mixed (K : PySem.W.Frag) (AD : Ads) : Sp := fun vs H Q E => ∃ (G : Hp) (v_one : V) (one' : (List (List Int))) (v_other : V) (other' : (List (List Int))) (weight' : Int), vs = [v_one, v_other, .int weight'] ∧ Same G H ∧ Rp (hideL [] H) v_one ((encL (encL PyData.int)) one') ∧ Rp (hideL [] H) v_other ((encL (encL PyData.int)) other') ∧ cW (F__mixed one' other' weight') (fun v => ∀ (H' : Hp) (a : Addr) (vs : List V) (L : List Addr) (G' : Hp), H a = none → (∀ b ∈ L, H b = none) → (∀ b ∈ L, b ≠ a) → Same H H' → Same G G' → Same G' H' → (∀ b, H b ≠ none → G b = none → G' b = none) → G' a = none → (∀ b ∈ L, G' b = none) → H' a = some (.lst vs) → OwAll G' H' L vs ((v : (List (List Int))).map (oL oI)) → Q (.ref a) H') (fun e => ∀ H', Same H H' → E (.ref (excA AD e)) none H')
def sp_predict_motion (K : PySem.W.Frag) (AD : Ads) : Sp := fun vs H Q E => ∃ (G : Hp) (p_fmt dx_fmt : Addr) (fmt' : St_Format) (p_header l_header_store l_header_refs dx_header : Addr) (header' : St_PictureHeader) (v_motion : V) (motion' : (Int × Int × PyData × PyData)) (v_references : V) (references' : (List (List (List (List Int))))) (plane' : Int) (x' : Int) (y' : Int) (width' : Int) (height' : Int), vs = [.ref p_fmt, .ref p_header, v_motion, v_references, .int plane', .int x', .int y', .int width', .int height'] ∧ Same G H ∧ (hideL [] H) p_fmt = some (.ins AD.c_Format dx_fmt [("width", V.int fmt'.width), ("height", V.int fmt'.height), ("depth", V.int fmt'.depth), ("chroma", V.int fmt'.chroma)]) ∧ (hideL [] H) p_header = some (.ins AD.c_PictureHeader dx_header [("number", V.int header'.number), ("kind", V.str header'.kind), ("level", V.int header'.level), ("store", V.ref l_header_store), ("refs", V.ref l_header_refs), ("weight", V.int header'.weight), ("layer", V.int header'.layer), ("shown", V.bl header'.shown), ("edge", V.int header'.edge)]) ∧ (hideL [] H) l_header_store = some (.lst ((header'.store : (List Int)).map V.int)) ∧ (hideL [] H) l_header_refs = some (.lst ((header'.refs : (List Int)).map V.int)) ∧ Rp (hideL [] H) v_motion ((encT4 PyData.int PyData.int encD encD) motion') ∧ Rp (hideL [] H) v_references ((encL (encL (encL (encL PyData.int)))) references') ∧ cW (F_predict_motion fmt' header' motion' references' plane' x' y' width' height') (fun v => ∀ (H' : Hp) (a : Addr) (vs : List V) (L : List Addr) (G' : Hp), H a = none → (∀ b ∈ L, H b = none) → (∀ b ∈ L, b ≠ a) → Same H H' → Same G G' → Same G' H' → (∀ b, H b ≠ none → G b = none → G' b = none) → G' a = none → (∀ b ∈ L, G' b = none) → H' a = some (.lst vs) → OwAll G' H' L vs ((v : (List (List Int))).map (oL oI)) → Q (.ref a) H') (fun e => ∀ H', Same H H' → E (.ref (excA AD e)) none H')
def sp_law (K : PySem.W.Frag) (AD : Ads) : Sp := fun vs H Q E => ∃ (a_script : Addr) (script : List Int), vs = [.ref a_script] ∧ SqL K H a_script (script.map V.int) ∧ cW (F_law script) (fun v => v = true) (fun _ => False) ∧ ∀ H', Q (.bl true) H'
section
variable {P : Program} {w : World} {K : PySem.W.Frag} {mg : Str → Option Value} {base : Heap} {AD : Ads}
abbrev N__law_draws : List Str := ["cell", "limits", "found", "rest", "state", "free", "limit"]
theorem sc__law_draws : FnScope N__law_draws ["cell", "limits"] (defScope s__law_draws) := ⟨rfl, rfl, rfl, by decide +kernel, rfl, by decide +kernel, by decide +kernel⟩
theorem ok__law_draws (D : DefX K mg "_law_draws" s__law_draws ["cell", "limits"] pats__law_draws) (T : Txt w K mg AD)  : CalX P w K mg base 1 "_law_draws" (sp__law_draws K AD) pats__law_draws := by
  refine D.ok sc__law_draws (fun vs H Q E h => ?_) (fun f cdv A_ outer s H vs Q E hr h => ?_)
  · obtain ⟨G, cell', a_limits, limits', rfl, _⟩ := h
    rfl
  · obtain ⟨G, cell', a_limits, limits', rfl, sG, q_limits, hw⟩ := h
    refine ⟨_, (pss_cons (ps_set (i := 2) sc__law_draws.nd rfl (Or.inl rfl) (pe_lst pa_nil))
      (pss_cons (ps_set (i := 3) sc__law_draws.nd rfl (Or.inl rfl) (pe_callB call_abs (by rfl) T.b_abs (by decide +kernel) (pa_cons (pe_callTy call_int1 (by rfl) T.b_int (by decide +kernel) (pa_cons (pv 0) pa_nil)) pa_nil)))
      (pss_cons (ps_set (i := 4) sc__law_draws.nd rfl (Or.inl rfl) (pe_op op_mod (pe_callTy call_int1 (by rfl) T.b_int (by decide +kernel) (pa_cons (pv 3) pa_nil)) pe_int))
      (pss_cons (ps_set (i := 5) sc__law_draws.nd rfl (Or.inl rfl) (pe_or (pe_cmp (pc_lt (pv 0) pe_int)) (pe_one (pe_cmp (pc_ge (pv 0) (pe_op op_pow pe_int pe_int))))))
      (pss_cons (ps_for (passes_of rfl) rfl (pi_listK (K := K) (pv 1)) (pg_name (i := 6) sc__law_draws.nd rfl (Or.inl rfl)) (pss_one (ps_if (PW.pt (pw_and (pt_val (pv 5)) (pw_and1 (pt_cmp (pc_gt (pv 3) pe_int))))) (pss_cons (ps_expr (pe_bm PySem.F.plainAttrs_list PySem.F.slot_list_append PySem.F.type_list_append mt_append (pv 2) (pa_cons (pe_op op_mod (pe_callTy call_int1 (by rfl) T.b_int (by decide +kernel) (pa_cons (pv 3) pa_nil)) (pv 6)) pa_nil)))
      (pss_one (ps_set (i := 3) sc__law_draws.nd rfl (Or.inl rfl) (pe_op op_fdivW (pv 3) (pv 6))))) (pss_cons (ps_set (i := 4) sc__law_draws.nd rfl (Or.inl rfl) (pe_op op_mod (pe_callTy call_int1 (by rfl) T.b_int (by decide +kernel) (pa_cons (pe_op op_add (pe_op op_mul (pv 4) pe_int) pe_int) pa_nil)) pe_int))
      (pss_cons (ps_set (i := 4) sc__law_draws.nd rfl (Or.inl rfl) (pe_op op_mod (pe_callTy call_int1 (by rfl) T.b_int (by decide +kernel) (pa_cons (pe_op op_add (pe_op op_mul (pv 4) pe_int) pe_int) pa_nil)) pe_int))
      (pss_one (ps_expr (pe_bm PySem.F.plainAttrs_list PySem.F.slot_list_append PySem.F.type_list_append mt_append (pv 2) (pa_cons (pe_op op_mod (pe_callTy call_int1 (by rfl) T.b_int (by decide +kernel) (pa_cons (pe_op op_fdivW (pv 4) pe_int) pa_nil)) (pv 6)) pa_nil)))))))))
      (pss_one (ps_ret (pv 2)))))))), ?_⟩
    obtain ⟨KK, EE, hK0, hE, hw⟩ := cW_gen hw
    have S0 := Sep.startG sG
    unfold F__law_draws at hw
    refine ⟨(by show 0 ≤ sizeLine; decide), fun p1 n2 => ?_⟩
    generalize g3 : upd H p1 _ = H4
    obtain ⟨e5, h6⟩ := gen_new n2 g3
    have h7 : H4 p1 = some (.lst ((([] : (List Int)) : (List Int)).map V.int)) := h6
    have fr8 := S0.free n2
    have S9 := S0.new n2 e5 h7 fr8
    refine ⟨_, rfl, .inl ⟨_, rfl, ?_⟩⟩
    refine ⟨_, rfl, ?_⟩
    have hw := cW_bnd hw
    refine ⟨_, rfl, .inl ⟨_, rfl, ?_⟩⟩
    refine ⟨_, _, rfl, rfl, (show (0 : Int) < 2147483647 by decide), ?_⟩
    have hw := cW_bnd hw
    refine vv_or (ta := (tLt (tVar 0) (tC (V.int 0)))) (tb := (tGe (tVar 0) (tOp (rI CPow fun i j => V.int (i ^ j.toNat)) (tC (V.int 10)) (tC (V.int 18))))) (a := decide (cell' < 0)) (b := decide (((10 : Int) ^ Int.toNat 18) ≤ cell')) ?ha12 ?hb13 _ ?_
    case ha12 => exact (vv_cmp (val_var rfl) val_c (fun Q q => ⟨_, _, rfl, rfl, q⟩))
    case hb13 => exact (vv_cmp (val_var rfl) (val_op val_c val_c (fun Q q => ⟨_, _, rfl, rfl, ⟨by decide, by decide, by decide⟩, q⟩)) (fun Q q => ⟨_, _, rfl, rfl, q⟩))
    have hw := cW_bnd hw
    obtain ⟨K16, hK17, hw⟩ := cW_push hw
    refine ⟨_, rfl, _, rfl, ⟨_, (SqL.of (S9.bM _ _ q_limits))⟩, for_list (K := K) (a := a_limits) (xs := (limits' : List Int).map V.int) (fun i σ H' => ∃ (found_18 : (List Int)) (rest_19 : Int) (state_20 : Int) (u21 : Option V) (G' : Hp), σ = [some (V.int (cell')), some (V.ref a_limits), some (V.ref p1), some (V.int rest_19), some (V.int state_20), some (V.bl ((decide (cell' < 0) || decide (((10 : Int) ^ Int.toNat 18) ≤ cell')))), u21] ∧ Same G G' ∧ Sep [] H G G' H' [p1] ∧ H' p1 = some (.lst ((found_18 : (List Int)).map V.int)) ∧ cW (forS (List.drop i (limits')) (found_18, rest_19, state_20) (fun s x => F__law_draws_b1 ((decide (cell' < 0) || decide (((10 : Int) ^ Int.toNat 18) ≤ cell'))) (s.1) (s.2.1) (s.2.2) x)) K16 EE) ?_ ?_ ?_ ?_⟩
    · exact ⟨(([] : (List Int))), ((if cell' < 0 then -cell' else cell')), (((if cell' < 0 then -cell' else cell') % 2147483647)), _, _, rfl, (Same.refl _), S9, h7, hw⟩
    · intro i σ H22 _ hw
      obtain ⟨found_18, rest_19, state_20, u21, G25, rfl, eG26, S23, h24, hw⟩ := hw
      exact (SqL.of (S23.bM _ _ q_limits))
    · intro i x σ H27 hj hw
      obtain ⟨found_18, rest_19, state_20, u21, G30, rfl, eG31, S28, h29, hw⟩ := hw
      obtain ⟨x32, hx, rfl⟩ := map_get hj
      have hw := cW_forS hx hw
      have hw : cW (F__law_draws_b1 ((decide (cell' < 0) || decide (((10 : Int) ^ Int.toNat 18) ≤ cell'))) (found_18) (rest_19) (state_20) (x32)) _ EE := hw
      unfold F__law_draws_b1 at hw
      obtain ⟨K36, hK37, hw⟩ := cW_name hw
      refine ⟨_, rfl, _, rfl, ?_⟩
      refine iteB (fun c39 => ?_) (fun c39 => ?_)
      · have hw := cW_pos c39 hw
        refine ⟨_, rfl, _, _, rfl, rfl, _, rfl, ?_⟩
        refine iteD (fun c40 => ?_) (fun c40 => ?_)
        · have hw := cW_pos c40 hw
          refine ⟨_, rfl, (.inl ⟨rfl, _, SqL.of h29⟩), _, rfl, .inl ⟨_, rfl, ?_⟩⟩
          obtain ⟨g41, hw⟩ := cW_grd hw
          obtain ⟨g42, hw⟩ := cW_grd hw
          refine ⟨_, rfl, _, _, rfl, rfl, g41, _, _, _, rfl, rfl, h29, (app_lenM g42), ?_⟩
          generalize g43 : upd H27 p1 _ = H44
          obtain ⟨x45, h46⟩ := gen_mut g43
          have h47 : H44 p1 = some (.lst (((found_18) ++ [(rest_19 % x32)] : (List Int)).map V.int)) := snoc_map h46
          have S48 := S28.mut1 x45 (.head _) h47
          have hw := cW_bnd hw
          obtain ⟨g50, hw⟩ := cW_grd hw
          refine ⟨_, rfl, _, rfl, _, _, rfl, rfl, (divW_small g50.1 g50.2), ?_⟩
          have hw := cW_bnd hw
          have hw := cW_ok hw
          have hw := hK37 _ hw
          exact ⟨((found_18) ++ [(rest_19 % x32)]), ((rest_19 / x32)), (state_20), _, _, rfl, eG31, S48, h47, hw⟩
        · have hw := cW_neg c40 hw
          refine ⟨_, rfl, _, _, rfl, rfl, (.inr ⟨by decide, by decide⟩), _, _, rfl, rfl, .inl ⟨_, rfl, ?_⟩⟩
          refine ⟨_, _, rfl, rfl, (show (0 : Int) < 2147483647 by decide), ?_⟩
          have hw := cW_bnd hw
          refine ⟨_, rfl, _, _, rfl, rfl, (.inr ⟨by decide, by decide⟩), _, _, rfl, rfl, .inl ⟨_, rfl, ?_⟩⟩
          refine ⟨_, _, rfl, rfl, (show (0 : Int) < 2147483647 by decide), ?_⟩
          have hw := cW_bnd hw
          refine ⟨_, rfl, (.inl ⟨rfl, _, SqL.of h29⟩), _, rfl, _, _, rfl, rfl, (divW_lit (by decide) (by decide)), .inl ⟨_, rfl, ?_⟩⟩
          obtain ⟨g54, hw⟩ := cW_grd hw
          obtain ⟨g55, hw⟩ := cW_grd hw
          refine ⟨_, rfl, _, _, rfl, rfl, g54, _, _, _, rfl, rfl, h29, (app_lenM g55), ?_⟩
          generalize g56 : upd H27 p1 _ = H57
          obtain ⟨x58, h59⟩ := gen_mut g56
          have h60 : H57 p1 = some (.lst (((found_18) ++ [((((((((state_20 * 48271) + 11) % 2147483647) * 69621) + 7) % 2147483647) / 13) % x32)] : (List Int)).map V.int)) := snoc_map h59
          have S61 := S28.mut1 x58 (.head _) h60
          have hw := cW_bnd hw
          have hw := cW_ok hw
          have hw := hK37 _ hw
          exact ⟨((found_18) ++ [((((((((state_20 * 48271) + 11) % 2147483647) * 69621) + 7) % 2147483647) / 13) % x32)]), (rest_19), (((((((state_20 * 48271) + 11) % 2147483647) * 69621) + 7) % 2147483647)), _, _, rfl, eG31, S61, h60, hw⟩
      · have hw := cW_negB c39 hw
        refine iteF ?_
        refine ⟨_, rfl, _, _, rfl, rfl, (.inr ⟨by decide, by decide⟩), _, _, rfl, rfl, .inl ⟨_, rfl, ?_⟩⟩
        refine ⟨_, _, rfl, rfl, (show (0 : Int) < 2147483647 by decide), ?_⟩
        have hw := cW_bnd hw
        refine ⟨_, rfl, _, _, rfl, rfl, (.inr ⟨by decide, by decide⟩), _, _, rfl, rfl, .inl ⟨_, rfl, ?_⟩⟩
        refine ⟨_, _, rfl, rfl, (show (0 : Int) < 2147483647 by decide), ?_⟩
        have hw := cW_bnd hw
        refine ⟨_, rfl, (.inl ⟨rfl, _, SqL.of h29⟩), _, rfl, _, _, rfl, rfl, (divW_lit (by decide) (by decide)), .inl ⟨_, rfl, ?_⟩⟩
        obtain ⟨g65, hw⟩ := cW_grd hw
        obtain ⟨g66, hw⟩ := cW_grd hw
        refine ⟨_, rfl, _, _, rfl, rfl, g65, _, _, _, rfl, rfl, h29, (app_lenM g66), ?_⟩
        generalize g67 : upd H27 p1 _ = H68
        obtain ⟨x69, h70⟩ := gen_mut g67
        have h71 : H68 p1 = some (.lst (((found_18) ++ [((((((((state_20 * 48271) + 11) % 2147483647) * 69621) + 7) % 2147483647) / 13) % x32)] : (List Int)).map V.int)) := snoc_map h70
        have S72 := S28.mut1 x69 (.head _) h71
        have hw := cW_bnd hw
        have hw := cW_ok hw
        have hw := hK37 _ hw
        exact ⟨((found_18) ++ [((((((((state_20 * 48271) + 11) % 2147483647) * 69621) + 7) % 2147483647) / 13) % x32)]), (rest_19), (((((((state_20 * 48271) + 11) % 2147483647) * 69621) + 7) % 2147483647)), _, _, rfl, eG31, S72, h71, hw⟩
    · intro σ H74 hw
      obtain ⟨found_18, rest_19, state_20, u21, G77, rfl, eG78, S75, h76, hw⟩ := hw
      have hw := hK17 _ (cW_forS0 (by rw [List.length_map]) hw)
      have hw : cW (F__law_draws_r1  (found_18) (rest_19) (state_20)) _ EE := hw
      unfold F__law_draws_r1 at hw
      refine ⟨_, rfl, ?_⟩
      have hw := cW_ok hw
      exact hK0 _ hw _ _ fr8 S75.b0 h76

abbrev N__law_between : List Str := ["first", "second", "low", "high"]
theorem sc__law_between : FnScope N__law_between ["first", "second", "low", "high"] (defScope s__law_between) := ⟨rfl, rfl, rfl, by decide +kernel, rfl, by decide +kernel, by decide +kernel⟩
theorem ok__law_between (D : DefX K mg "_law_between" s__law_between ["first", "second", "low", "high"] pats__law_between) (T : Txt w K mg AD)  : CalX P w K mg base 1 "_law_between" (sp__law_between K AD) pats__law_between := by
  refine D.ok sc__law_between (fun vs H Q E h => ?_) (fun f cdv A_ outer s H vs Q E hr h => ?_)
  · obtain ⟨G, first', second', low', high', rfl, _⟩ := h
    rfl
  · obtain ⟨G, first', second', low', high', rfl, sG, hw⟩ := h
    refine ⟨_, (pss_cons (ps_if (pt_cmp (pc_eqI (pv 0) pe_int)) (pss_one (ps_ret (pv 2))) pss_nil)
      (pss_cons (ps_if (pt_cmp (pc_eqI (pv 0) pe_int)) (pss_one (ps_ret (pv 3))) pss_nil)
      (pss_cons (ps_if (pt_cmp (pc_eqI (pv 0) pe_int)) (pss_one (ps_ret (pe_callB (call_min2 rfl) (by rfl) T.b_min (by decide +kernel) (pa_cons (pe_op op_add (pv 2) pe_int) (pa_cons (pv 3) pa_nil))))) pss_nil)
      (pss_one (ps_ret (pe_op op_add (pv 2) (pe_op op_mod (pe_callTy call_int1 (by rfl) T.b_int (by decide +kernel) (pa_cons (pv 1) pa_nil)) (pe_op op_add (pe_op op_sub (pv 3) (pv 2)) pe_int)))))))), ?_⟩
    obtain ⟨KK, EE, hK0, hE, hw⟩ := cW_gen hw
    have S0 := Sep.startG sG
    unfold F__law_between at hw
    refine ⟨_, rfl, _, _, rfl, rfl, _, rfl, ?_⟩
    refine iteD (fun c82 => ?_) (fun c82 => ?_)
    · have hw := cW_pos c82 hw
      refine ⟨_, rfl, ?_⟩
      have hw := cW_ok hw
      exact hK0 _ hw
    · have hw := cW_neg c82 hw
      refine ⟨_, rfl, _, _, rfl, rfl, _, rfl, ?_⟩
      refine iteD (fun c83 => ?_) (fun c83 => ?_)
      · have hw := cW_pos c83 hw
        refine ⟨_, rfl, ?_⟩
        have hw := cW_ok hw
        exact hK0 _ hw
      · have hw := cW_neg c83 hw
        refine ⟨_, rfl, _, _, rfl, rfl, _, rfl, ?_⟩
        refine iteD (fun c84 => ?_) (fun c84 => ?_)
        · have hw := cW_pos c84 hw
          refine ⟨_, rfl, _, _, rfl, rfl, _, rfl, _, _, rfl, ?_⟩
          have hw := cW_ok hw
          exact hK0 _ hw
        · have hw := cW_neg c84 hw
          refine ⟨_, rfl, _, rfl, .inl ⟨_, rfl, ?_⟩⟩
          obtain ⟨g85, hw⟩ := cW_grd hw
          refine ⟨_, rfl, _, rfl, _, _, rfl, rfl, _, _, rfl, rfl, _, _, rfl, rfl, g85, _, _, rfl, rfl, ?_⟩
          have hw := cW_ok hw
          exact hK0 _ hw

abbrev N__law_inter : List Str := ["cell", "draws", "n", "kind", "refs", "weight"]
theorem sc__law_inter : FnScope N__law_inter ["cell"] (defScope s__law_inter) := ⟨rfl, rfl, rfl, by decide +kernel, rfl, by decide +kernel, by decide +kernel⟩
theorem ok__law_inter (D : DefX K mg "_law_inter" s__law_inter ["cell"] pats__law_inter) (T : Txt w K mg AD) (c__law_draws : CalX P w K mg base 1 "_law_draws" (sp__law_draws K AD) pats__law_draws) (c__law_between : CalX P w K mg base 1 "_law_between" (sp__law_between K AD) pats__law_between) : CalX P w K mg base 2 "_law_inter" (sp__law_inter K AD) pats__law_inter := by
  refine D.ok sc__law_inter (fun vs H Q E h => ?_) (fun f cdv A_ outer s H vs Q E hr h => ?_)
  · obtain ⟨G, cell', rfl, _⟩ := h
    rfl
  · obtain ⟨G, cell', rfl, sG, hw⟩ := h
    refine ⟨_, (pss_cons (ps_set (i := 1) sc__law_inter.nd rfl (Or.inl rfl) (vx_callX c__law_draws pat__law_draws_0 (.head _) hr (by decide) (takes_of rfl rfl rfl rfl) rfl (pa_cons (pv 0) (pa_cons (pe_lst (pa_cons pe_int (pa_cons pe_int (pa_cons pe_int (pa_cons pe_int (pa_cons pe_int (pa_cons pe_int (pa_cons pe_int (pa_cons pe_int pa_nil))))))))) pa_nil)) pk_nil))
      (pss_cons (ps_set (i := 2) sc__law_inter.nd rfl (Or.inl rfl) (pe_lst (pa_cons (pe_op op_add pe_int (pe_ix (ix_listK (K := K)) (pv 1) pe_int (fun _ _ => rfl))) (pa_cons (pe_op op_add pe_int (pe_ix (ix_listK (K := K)) (pv 1) pe_int (fun _ _ => rfl))) (pa_cons (pe_op op_add pe_int (pe_ix (ix_listK (K := K)) (pv 1) pe_int (fun _ _ => rfl))) (pa_cons (pe_ix (ix_listK (K := K)) (pv 1) pe_int (fun _ _ => rfl)) pa_nil))))))
      (pss_cons (ps_set (i := 3) sc__law_inter.nd rfl (Or.inl rfl) (pe_op op_add pe_int (pe_ix (ix_listK (K := K)) (pv 1) pe_int (fun _ _ => rfl))))
      (pss_cons (ps_set (i := 4) sc__law_inter.nd rfl (Or.inl rfl) (pe_ix (ix_listK (K := K)) (pe_lst (pa_cons (pe_op op_add pe_int (pe_ix (ix_listK (K := K)) (pv 1) pe_int (fun _ _ => rfl))) (pa_cons pe_int pa_nil))) (pe_ix (ix_listK (K := K)) (pv 1) pe_int (fun _ _ => rfl)) (fun _ _ => rfl)))
      (pss_cons (ps_set (i := 5) sc__law_inter.nd rfl (Or.inl rfl) pe_int)
      (C8.pss_cut (ps_if (pt_cmp (pc_eqI (pv 3) pe_int)) (pss_one (ps_set (i := 5) sc__law_inter.nd rfl (Or.inl rfl) (vx_callX c__law_between pat__law_between_0 (.head _) hr (by decide) (takes_of rfl rfl rfl rfl) rfl (pa_cons (pe_ix (ix_listK (K := K)) (pv 1) pe_int (fun _ _ => rfl)) (pa_cons (pe_ix (ix_listK (K := K)) (pv 1) pe_int (fun _ _ => rfl)) (pa_cons pe_int (pa_cons pe_int pa_nil)))) pk_nil))) pss_nil)
      (pss_one (ps_ret (pe_tup (pa_cons (pv 2) (pa_cons (pv 3) (pa_cons (pv 4) (pa_cons (pv 5) pa_nil))))))))))))), ?_⟩
    obtain ⟨KK, EE, hK0, hE, hw⟩ := cW_gen hw
    have S0 := Sep.startG sG
    unfold F__law_inter at hw
    refine ⟨_, rfl, (by show 8 ≤ sizeLine; decide), fun p86 n87 => ?_⟩
    generalize g88 : upd H p86 _ = H89
    obtain ⟨e90, h91⟩ := gen_new n87 g88
    have h92 : H89 p86 = some (.lst (([16, 16, 5, 3, 2, 2, 6, 17] : (List Int)).map V.int)) := h91
    have fr93 := S0.free n87
    have S94 := S0.new n87 e90 h92 fr93
    refine ⟨rfl, rfl, G, _, _, _, rfl, S94.sG, (hide_nil h92), cW_call hw (fun v95 hw p98 H96 n99 e97 h100 => ?_) (fun e he H2 e2 => hE e he H2 (Same.trans S94.b0 e2))⟩
    have h101 : H96 p98 = some (.lst ((v95 : (List Int)).map V.int)) := h100
    have fr102 := S94.free n99
    have S103 := S94.new n99 e97 h101 fr102
    obtain ⟨g104, hw⟩ := cW_grd hw
    obtain ⟨g105, hw⟩ := cW_grd hw
    obtain ⟨g106, hw⟩ := cW_grd hw
    obtain ⟨g107, hw⟩ := cW_grd hw
    refine ⟨_, rfl, _, _, _, _, rfl, rfl, (SqL.of h101), (atI_map g104), _, _, rfl, rfl, _, rfl, _, _, _, _, rfl, rfl, (SqL.of h101), (atI_map g105), _, _, rfl, rfl, _, rfl, _, _, _, _, rfl, rfl, (SqL.of h101), (atI_map g106), _, _, rfl, rfl, _, rfl, _, _, _, _, rfl, rfl, (SqL.of h101), (atI_map g107), (by show 4 ≤ sizeLine; decide), fun p108 n109 => ?_⟩
    generalize g110 : upd H96 p108 _ = H111
    obtain ⟨e112, h113⟩ := gen_new n109 g110
    have h114 : H111 p108 = some (.lst (([(1 + (itD (v95) (0))), (1 + (itD (v95) (1))), (8 + (itD (v95) (2))), (itD (v95) (3))] : (List Int)).map V.int)) := h113
    have fr115 := S103.free n109
    have S116 := S103.new n109 e112 h114 fr115
    obtain ⟨g117, hw⟩ := cW_grd hw
    have h118 := (e112 _ _ h101)
    refine ⟨_, rfl, _, _, _, _, rfl, rfl, (SqL.of h118), (atI_map g117), _, _, rfl, rfl, ?_⟩
    have hw := cW_bnd hw
    obtain ⟨g120, hw⟩ := cW_grd hw
    refine ⟨_, rfl, _, _, _, _, rfl, rfl, (SqL.of h118), (atI_map g120), _, _, rfl, rfl, (by show 2 ≤ sizeLine; decide), fun p121 n122 => ?_⟩
    generalize g123 : upd H111 p121 _ = H124
    obtain ⟨e125, h126⟩ := gen_new n122 g123
    have h127 : H124 p121 = some (.lst (([(1 + (itD (v95) (5))), 2] : (List Int)).map V.int)) := h126
    have fr128 := S116.free n122
    have S129 := S116.new n122 e125 h127 fr128
    obtain ⟨g130, hw⟩ := cW_grd hw
    have h131 := (e125 _ _ h118)
    obtain ⟨g132, hw⟩ := cW_grd hw
    refine ⟨_, rfl, _, _, _, _, rfl, rfl, (SqL.of h131), (atI_map g130), _, _, _, _, rfl, rfl, (SqL.of h127), (atI_map g132), ?_⟩
    have hw := cW_bnd hw
    refine ⟨fun σ H' => ∃ (weight_138 : Int) (G' : Hp), σ = [some (V.int (cell')), some (V.ref p98), some (V.ref p108), some (V.int ((1 + (itD (v95) (4))))), some (V.int ((itD ([(1 + (itD (v95) (5))), 2]) ((itD (v95) (4)))))), some (V.int weight_138)] ∧ Same G G' ∧ Sep [] H G G' H' [p98, p108] ∧ H' p98 = some (.lst ((v95 : (List Int)).map V.int)) ∧ H' p108 = some (.lst (([(1 + (itD (v95) (0))), (1 + (itD (v95) (1))), (8 + (itD (v95) (2))), (itD (v95) (3))] : (List Int)).map V.int)) ∧ cW (F__law_inter_k1 ([(1 + (itD (v95) (0))), (1 + (itD (v95) (1))), (8 + (itD (v95) (2))), (itD (v95) (3))]) ((1 + (itD (v95) (4)))) ((itD ([(1 + (itD (v95) (5))), 2]) ((itD (v95) (4))))) weight_138) KK EE, ?_, ?_⟩
    · obtain ⟨K139, hK140, hw⟩ := cW_push hw
      refine ⟨_, rfl, _, _, rfl, rfl, _, rfl, ?_⟩
      refine iteD (fun c141 => ?_) (fun c141 => ?_)
      · have hw := cW_pos c141 hw
        obtain ⟨g142, hw⟩ := cW_grd hw
        obtain ⟨g143, hw⟩ := cW_grd hw
        refine ⟨_, rfl, _, _, _, _, rfl, rfl, (SqL.of h131), (atI_map g142), _, rfl, _, _, _, _, rfl, rfl, (SqL.of h131), (atI_map g143), rfl, rfl, G, _, _, _, _, rfl, S129.sG, cW_call hw (fun v144 hw => ?_) (fun e he => hE e he _ S129.b0)⟩
        have hw := cW_ok hw
        have hw := hK140 _ hw
        have h145 := (e125 _ _ h114)
        exact ⟨(v144), _, rfl, (Same.refl _), (S129.sub (all_cons (.tail _ (.tail _ (.head _))) (all_cons (.tail _ (.head _)) all_nil))), h131, h145, hw⟩
      · have hw := cW_neg c141 hw
        have hw := cW_ok hw
        have hw := hK140 _ hw
        have h146 := (e125 _ _ h114)
        exact ⟨(8), _, rfl, (Same.refl _), (S129.sub (all_cons (.tail _ (.tail _ (.head _))) (all_cons (.tail _ (.head _)) all_nil))), h131, h146, hw⟩
    · intro σ H147 hw
      obtain ⟨weight_138, G151, rfl, eG152, S148, h149, h150, hw⟩ := hw
      unfold F__law_inter_k1 at hw
      refine ⟨_, rfl, _, rfl, _, rfl, _, rfl, (by show 4 ≤ sizeLine; decide), fun p153 n154 => ?_⟩
      generalize g155 : upd H147 p153 _ = H156
      obtain ⟨e157, h158⟩ := gen_new n154 g155
      have h159 : H156 p153 = some (.tup [V.ref p108, V.int ((1 + (itD (v95) (4)))), V.int ((itD ([(1 + (itD (v95) (5))), 2]) ((itD (v95) (4))))), V.int (weight_138)]) := h158
      have fr160 := S148.free n154
      obtain ⟨G162, eG163, hg164, S161⟩ := S148.grow n154 e157 h159 fr160
      have h165 := (e157 _ _ h150)
      obtain ⟨G166, eG167, hg168, S169⟩ := Sep.freeze (O' := [p98]) S161 (.tail _ (.head _)) h165 fr115 ((all_cons ⟨(.head _), (ne_of_none h101 n109)⟩ all_nil))
      have hw := cW_ok hw
      exact hK0 _ hw _ _ _ S169.b0 S169.g0 S169.sG S169.gn (rp_mk4 (eG167 _ _ hg164) (rp_mk_ints hg168) (.int _) (.int _) (.int _))

abbrev N__require : List Str := ["holds", "text"]
theorem sc__require : FnScope N__require ["holds", "text"] (defScope s__require) := ⟨rfl, rfl, rfl, by decide +kernel, rfl, by decide +kernel, by decide +kernel⟩
theorem ok__require (D : DefX K mg "_require" s__require ["holds", "text"] pats__require) (T : Txt w K mg AD)  : CalX P w K mg base 1 "_require" (sp__require K AD) pats__require := by
  refine D.ok sc__require (fun vs H Q E h => ?_) (fun f cdv A_ outer s H vs Q E hr h => ?_)
  · obtain ⟨G, holds', text', rfl, _⟩ := h
    rfl
  · obtain ⟨G, holds', text', rfl, sG, hw⟩ := h
    refine ⟨_, (pss_one (ps_if (pt_not (pt_val (pv 0))) (pss_one (ps_raise rfl (takes_of rfl rfl rfl rfl) (SkE.pmk_own1 PySem.F.excBase_ValueError T.xx_BadHeader T.xg_BadHeader T.xk_BadHeader (raises_own T.xb_BadHeader T.xt_BadHeader) rfl (pv 1)))) pss_nil)), ?_⟩
    obtain ⟨KK, EE, hK0, hE, hw⟩ := cW_gen hw
    have S0 := Sep.startG sG
    unfold F__require at hw
    refine ⟨_, rfl, _, rfl, ?_⟩
    refine iteBN (fun c170 => ?_) (fun c170 => ?_)
    · have hw := cW_negB c170 hw
      refine ⟨_, rfl, ?_⟩
      exact hE 3 (cW_er hw)
    · have hw := cW_pos c170 hw
      have hw := cW_ok hw
      exact hK0 _ hw

abbrev N_Settings___init__ : List Str := ["self", "fmt", "slots", "rows", "deblock", "offset", "layers"]
theorem sc_Settings___init__ : FnScope N_Settings___init__ ["self", "fmt", "slots", "rows", "deblock", "offset", "layers"] (defScope s_Settings___init__) := ⟨rfl, rfl, rfl, by decide +kernel, rfl, by decide +kernel, by decide +kernel⟩
theorem ok_Settings___init__ (D : InitX K mg AD.c_Settings "Settings" "Settings.__init__" s_Settings___init__ ["self", "fmt", "slots", "rows", "deblock", "offset", "layers"] pats_Settings___init__) (T : Txt w K mg AD) (c__require : CalX P w K mg base 1 "_require" (sp__require K AD) pats__require) : MakX P w K mg base 2 "Settings" AD.c_Settings (sp_Settings___init__ K AD) pats_Settings___init__ := by
  refine D.ok sc_Settings___init__ (fun vs H Q E h => ?_) (fun f cdv A_ outer s H vs Q E hr h => ?_)
  · obtain ⟨G, p_self, dx_self, p_fmt, dx_fmt, fmt', slots', rows', deblock', offset', layers', rfl, _⟩ := h
    rfl
  · obtain ⟨G, p_self, dx_self, p_fmt, dx_fmt, fmt', slots', rows', deblock', offset', layers', rfl, sG, gM, h_self, h_p_fmt, hw⟩ := h
    refine ⟨_, (pss_cons (ps_expr (vx_callX c__require pat__require_0 (.head _) hr (by decide) (takes_of rfl rfl rfl rfl) rfl (pa_cons (pe_chain op_le op_le pe_int (pv 2) pe_int) (pa_cons pe_str pa_nil)) pk_nil))
      (pss_cons (ps_expr (vx_callX c__require pat__require_0 (.head _) hr (by decide) (takes_of rfl rfl rfl rfl) rfl (pa_cons (pe_chain op_le op_le pe_int (pv 3) pe_int) (pa_cons pe_str pa_nil)) pk_nil))
      (pss_cons (ps_expr (vx_callX c__require pat__require_0 (.head _) hr (by decide) (takes_of rfl rfl rfl rfl) rfl (pa_cons (pe_chain op_le op_le pe_int (pv 6) pe_int) (pa_cons pe_str pa_nil)) pk_nil))
      (pss_cons (ps_fld (pv 0) (pv 1) rfl)
      (pss_cons (ps_fld (pv 0) (pv 2) rfl)
      (pss_cons (ps_fld (pv 0) (pv 3) rfl)
      (pss_cons (ps_fld (pv 0) (pv 4) rfl)
      (pss_cons (ps_fld (pv 0) (pv 5) rfl)
      (pss_one (ps_fld (pv 0) (pv 6) rfl)))))))))), ?_⟩
    obtain ⟨KK, EE, hK0, hE, hw⟩ := cW_gen hw
    have S0 := Sep.startM (M := [p_self]) sG (all_cons (some_ne h_self) all_nil) gM
    unfold F_Settings___init__ at hw
    refine vv_chain (ta := (tC (V.int 1))) (tb := (tVar 2)) (tc := (tC (V.int 4))) (r := (rI0 fun i j => V.bl (decide (i ≤ j)))) (r' := (rI0 fun i j => V.bl (decide (i ≤ j)))) (x := V.int (1)) (y := V.int (slots')) (z := V.int (4)) (a := decide (1 ≤ slots')) (b := decide (slots' ≤ 4)) ?hx171 ?hy172 ?hz173 (fun Q q => ⟨_, _, rfl, rfl, q⟩) (fun Q q => ⟨_, _, rfl, rfl, q⟩) _ ?_
    case hx171 => exact val_c
    case hy172 => exact (val_var rfl)
    case hz173 => exact val_c
    refine ⟨rfl, rfl, G, _, _, rfl, S0.sG, cW_call hw (fun v174 hw => ?_) (fun e he => hE e he _ (sameX_of S0.base))⟩
    refine vv_chain (ta := (tC (V.int 1))) (tb := (tVar 3)) (tc := (tC (V.int 32))) (r := (rI0 fun i j => V.bl (decide (i ≤ j)))) (r' := (rI0 fun i j => V.bl (decide (i ≤ j)))) (x := V.int (1)) (y := V.int (rows')) (z := V.int (32)) (a := decide (1 ≤ rows')) (b := decide (rows' ≤ 32)) ?hx175 ?hy176 ?hz177 (fun Q q => ⟨_, _, rfl, rfl, q⟩) (fun Q q => ⟨_, _, rfl, rfl, q⟩) _ ?_
    case hx175 => exact val_c
    case hy176 => exact (val_var rfl)
    case hz177 => exact val_c
    refine ⟨rfl, rfl, G, _, _, rfl, S0.sG, cW_call hw (fun v178 hw => ?_) (fun e he => hE e he _ (sameX_of S0.base))⟩
    refine vv_chain (ta := (tC (V.int 1))) (tb := (tVar 6)) (tc := (tC (V.int 4))) (r := (rI0 fun i j => V.bl (decide (i ≤ j)))) (r' := (rI0 fun i j => V.bl (decide (i ≤ j)))) (x := V.int (1)) (y := V.int (layers')) (z := V.int (4)) (a := decide (1 ≤ layers')) (b := decide (layers' ≤ 4)) ?hx179 ?hy180 ?hz181 (fun Q q => ⟨_, _, rfl, rfl, q⟩) (fun Q q => ⟨_, _, rfl, rfl, q⟩) _ ?_
    case hx179 => exact val_c
    case hy180 => exact (val_var rfl)
    case hz181 => exact val_c
    refine ⟨rfl, rfl, G, _, _, rfl, S0.sG, cW_call hw (fun v182 hw => ?_) (fun e he => hE e he _ (sameX_of S0.base))⟩
    refine ⟨_, rfl, _, rfl, _, _, _, _, rfl, h_self, T.cl_Settings, T.n_Settings_fmt, (by show 0 < 1000; decide), ?_⟩
    generalize g183 : upd H p_self _ = H184
    obtain ⟨x185, h186⟩ := gen_mut g183
    have h187 : H184 p_self = some (.ins AD.c_Settings dx_self [("fmt", V.ref p_fmt)]) := h186
    have S188 := S0.mut1 x185 (.head _) h187
    refine ⟨_, rfl, _, rfl, _, _, _, _, rfl, h187, T.cl_Settings, T.n_Settings_slots, (by show 1 < 1000; decide), ?_⟩
    generalize g189 : upd H184 p_self _ = H190
    obtain ⟨x191, h192⟩ := gen_mut g189
    have h193 : H190 p_self = some (.ins AD.c_Settings dx_self [("fmt", V.ref p_fmt), ("slots", V.int (slots'))]) := h192
    have S194 := S188.mut1 x191 (.head _) h193
    refine ⟨_, rfl, _, rfl, _, _, _, _, rfl, h193, T.cl_Settings, T.n_Settings_rows, (by show 2 < 1000; decide), ?_⟩
    generalize g195 : upd H190 p_self _ = H196
    obtain ⟨x197, h198⟩ := gen_mut g195
    have h199 : H196 p_self = some (.ins AD.c_Settings dx_self [("fmt", V.ref p_fmt), ("slots", V.int (slots')), ("rows", V.int (rows'))]) := h198
    have S200 := S194.mut1 x197 (.head _) h199
    refine ⟨_, rfl, _, rfl, _, _, _, _, rfl, h199, T.cl_Settings, T.n_Settings_deblock, (by show 3 < 1000; decide), ?_⟩
    generalize g201 : upd H196 p_self _ = H202
    obtain ⟨x203, h204⟩ := gen_mut g201
    have h205 : H202 p_self = some (.ins AD.c_Settings dx_self [("fmt", V.ref p_fmt), ("slots", V.int (slots')), ("rows", V.int (rows')), ("deblock", V.bl (deblock'))]) := h204
    have S206 := S200.mut1 x203 (.head _) h205
    refine ⟨_, rfl, _, rfl, _, _, _, _, rfl, h205, T.cl_Settings, T.n_Settings_offset, (by show 4 < 1000; decide), ?_⟩
    generalize g207 : upd H202 p_self _ = H208
    obtain ⟨x209, h210⟩ := gen_mut g207
    have h211 : H208 p_self = some (.ins AD.c_Settings dx_self [("fmt", V.ref p_fmt), ("slots", V.int (slots')), ("rows", V.int (rows')), ("deblock", V.bl (deblock')), ("offset", V.bl (offset'))]) := h210
    have S212 := S206.mut1 x209 (.head _) h211
    refine ⟨_, rfl, _, rfl, _, _, _, _, rfl, h211, T.cl_Settings, T.n_Settings_layers, (by show 5 < 1000; decide), ?_⟩
    generalize g213 : upd H208 p_self _ = H214
    obtain ⟨x215, h216⟩ := gen_mut g213
    have h217 : H214 p_self = some (.ins AD.c_Settings dx_self [("fmt", V.ref p_fmt), ("slots", V.int (slots')), ("rows", V.int (rows')), ("deblock", V.bl (deblock')), ("offset", V.bl (offset')), ("layers", V.int (layers'))]) := h216
    have S218 := S212.mut1 x215 (.head _) h217
    have hw := cW_ok hw
    exact hK0 _ hw _ (sameX_of S218.base) h217

abbrev N__check_numbers : List Str := ["settings", "header"]
theorem sc__check_numbers : FnScope N__check_numbers ["settings", "header"] (defScope s__check_numbers) := ⟨rfl, rfl, rfl, by decide +kernel, rfl, by decide +kernel, by decide +kernel⟩
theorem ok__check_numbers (D : DefX K mg "_check_numbers" s__check_numbers ["settings", "header"] pats__check_numbers) (T : Txt w K mg AD) (c__require : CalX P w K mg base 1 "_require" (sp__require K AD) pats__require) : CalX P w K mg base 2 "_check_numbers" (sp__check_numbers K AD) pats__check_numbers := by
  refine D.ok sc__check_numbers (fun vs H Q E h => ?_) (fun f cdv A_ outer s H vs Q E hr h => ?_)
  · obtain ⟨G, p_settings, p_settings_fmt, dx_settings, dx_settings_fmt, settings', p_header, l_header_store, l_header_refs, dx_header, header', rfl, _⟩ := h
    rfl
  · obtain ⟨G, p_settings, p_settings_fmt, dx_settings, dx_settings_fmt, settings', p_header, l_header_store, l_header_refs, dx_header, header', rfl, sG, h_p_settings, h_p_settings_fmt, h_p_header, h_l_header_store, h_l_header_refs, hw⟩ := h
    refine ⟨_, (C8.pss_cut (ps_expr (vx_callX c__require pat__require_0 (.head _) hr (by decide) (takes_of rfl rfl rfl rfl) rfl (pa_cons (pe_chain op_le op_le pe_int (fldK (K := K) (pv 1)) (C8.pe_gc rfl T.g_GREATEST_NUMBER)) (pa_cons pe_str pa_nil)) pk_nil))
      (C8.pss_cut (ps_expr (vx_callX c__require pat__require_0 (.head _) hr (by decide) (takes_of rfl rfl rfl rfl) rfl (pa_cons (pe_cmpR (op_inS (K := K)) (fldK (K := K) (pv 1)) (C8.pe_gc (v := V.ref AD.t_KINDS) rfl T.g_KINDS) (by with_unfolding_all rfl)) (pa_cons pe_str pa_nil)) pk_nil))
      (C8.pss_cut (ps_expr (vx_callX c__require pat__require_0 (.head _) hr (by decide) (takes_of rfl rfl rfl rfl) rfl (pa_cons (pe_chain op_le op_le pe_int (fldK (K := K) (pv 1)) (C8.pe_gc rfl T.g_GREATEST_LEVEL)) (pa_cons pe_str pa_nil)) pk_nil))
      (C8.pss_cut (ps_expr (vx_callX c__require pat__require_0 (.head _) hr (by decide) (takes_of rfl rfl rfl rfl) rfl (pa_cons (pe_chain op_le op_le pe_int (fldK (K := K) (pv 1)) pe_int) (pa_cons pe_str pa_nil)) pk_nil))
      (C8.pss_cut (ps_expr (vx_callX c__require pat__require_0 (.head _) hr (by decide) (takes_of rfl rfl rfl rfl) rfl (pa_cons (pe_or (pe_cmp (pc_eqI (fldK (K := K) (pv 1)) (C8.pe_gc rfl T.g_EVEN_WEIGHT))) (pe_one (pe_cmpR op_eq (fldK (K := K) (pv 1)) pe_str (nomark _)))) (pa_cons pe_str pa_nil)) pk_nil))
      (C8.pss_cut (ps_expr (vx_callX c__require pat__require_0 (.head _) hr (by decide) (takes_of rfl rfl rfl rfl) rfl (pa_cons (pe_chain op_le op_lt pe_int (fldK (K := K) (pv 1)) (fldK (K := K) (pv 0))) (pa_cons pe_str pa_nil)) pk_nil))
      (C8.pss_cut (ps_expr (vx_callX c__require pat__require_0 (.head _) hr (by decide) (takes_of rfl rfl rfl rfl) rfl (pa_cons (pe_chain op_le op_le (pe_un un_neg pe_int) (fldK (K := K) (pv 1)) pe_int) (pa_cons pe_str pa_nil)) pk_nil))
      (pss_one (ps_expr (vx_callX c__require pat__require_0 (.head _) hr (by decide) (takes_of rfl rfl rfl rfl) rfl (pa_cons (pe_or (pe_cmp (pc_eqI (fldK (K := K) (pv 1)) pe_int)) (pe_one (fldK (K := K) (pv 0)))) (pa_cons pe_str pa_nil)) pk_nil)))))))))), ?_⟩
    obtain ⟨KK, EE, hK0, hE, hw⟩ := cW_gen hw
    have S0 := Sep.startG sG
    unfold F__check_numbers at hw
    refine ⟨fun σ H' => ∃ (G' : Hp), σ = [some (V.ref p_settings), some (V.ref p_header)] ∧ Same G G' ∧ Sep [] H G G' H' [] ∧ cW (F__check_numbers_k1 (settings') (header') ) KK EE, ?_, ?_⟩
    · obtain ⟨K221, hK222, hw⟩ := cW_push hw
      refine ⟨_, rfl, _, _, _, _, _, rfl, (S0.bM _ _ h_p_header), T.cl_PictureHeader, T.n_PictureHeader_number, rfl, _, _, rfl, rfl, _, rfl, ?_⟩
      refine iteD (fun c223 => ?_) (fun c223 => ?_)
      · have hw := cW_pos c223 hw
        refine ⟨_, _, rfl, rfl, rfl, rfl, G, _, _, rfl, S0.sG, cW_call hw (fun v224 hw => ?_) (fun e he => hE e he _ S0.b0)⟩
        have hw := cW_ok hw
        have hw := hK222 _ hw
        exact ⟨_, rfl, (Same.refl _), S0, hw⟩
      · have hw := cW_neg c223 hw
        refine ⟨rfl, rfl, G, _, _, rfl, S0.sG, cW_call hw (fun v225 hw => ?_) (fun e he => hE e he _ S0.b0)⟩
        have hw := cW_ok hw
        have hw := hK222 _ hw
        exact ⟨_, rfl, (Same.refl _), S0, hw⟩
    · intro σ H226 hw
      obtain ⟨G228, rfl, eG229, S227, hw⟩ := hw
      unfold F__check_numbers_k1 at hw
      refine ⟨fun σ H' => ∃ (G' : Hp), σ = [some (V.ref p_settings), some (V.ref p_header)] ∧ Same G228 G' ∧ Sep [] H G G' H' [] ∧ cW (F__check_numbers_k2 (settings') (header') ) KK EE, ?_, ?_⟩
      · obtain ⟨K232, hK233, hw⟩ := cW_push hw
        refine ⟨_, rfl, _, _, _, _, _, rfl, (S227.bM _ _ h_p_header), T.cl_PictureHeader, T.n_PictureHeader_kind, rfl, _, _, ([("I" : Str), ("P" : Str), ("B" : Str)] : List Str), rfl, rfl, (.inr (T.ts_KINDS _)), rfl, rfl, G228, _, _, rfl, S227.sG, cW_call hw (fun v234 hw => ?_) (fun e he => hE e he _ S227.b0)⟩
        have hw := cW_ok hw
        have hw := hK233 _ hw
        exact ⟨_, rfl, (Same.refl _), S227, hw⟩
      · intro σ H235 hw
        obtain ⟨G237, rfl, eG238, S236, hw⟩ := hw
        unfold F__check_numbers_k2 at hw
        refine ⟨fun σ H' => ∃ (G' : Hp), σ = [some (V.ref p_settings), some (V.ref p_header)] ∧ Same G237 G' ∧ Sep [] H G G' H' [] ∧ cW (F__check_numbers_k3 (settings') (header') ) KK EE, ?_, ?_⟩
        · obtain ⟨K241, hK242, hw⟩ := cW_push hw
          refine ⟨_, rfl, _, _, _, _, _, rfl, (S236.bM _ _ h_p_header), T.cl_PictureHeader, T.n_PictureHeader_level, rfl, _, _, rfl, rfl, _, rfl, ?_⟩
          refine iteD (fun c243 => ?_) (fun c243 => ?_)
          · have hw := cW_pos c243 hw
            refine ⟨_, _, rfl, rfl, rfl, rfl, G237, _, _, rfl, S236.sG, cW_call hw (fun v244 hw => ?_) (fun e he => hE e he _ S236.b0)⟩
            have hw := cW_ok hw
            have hw := hK242 _ hw
            exact ⟨_, rfl, (Same.refl _), S236, hw⟩
          · have hw := cW_neg c243 hw
            refine ⟨rfl, rfl, G237, _, _, rfl, S236.sG, cW_call hw (fun v245 hw => ?_) (fun e he => hE e he _ S236.b0)⟩
            have hw := cW_ok hw
            have hw := hK242 _ hw
            exact ⟨_, rfl, (Same.refl _), S236, hw⟩
        · intro σ H246 hw
          obtain ⟨G248, rfl, eG249, S247, hw⟩ := hw
          unfold F__check_numbers_k3 at hw
          refine ⟨fun σ H' => ∃ (G' : Hp), σ = [some (V.ref p_settings), some (V.ref p_header)] ∧ Same G248 G' ∧ Sep [] H G G' H' [] ∧ cW (F__check_numbers_k4 (settings') (header') ) KK EE, ?_, ?_⟩
          · obtain ⟨K252, hK253, hw⟩ := cW_push hw
            refine ⟨_, rfl, _, _, _, _, _, rfl, (S247.bM _ _ h_p_header), T.cl_PictureHeader, T.n_PictureHeader_weight, rfl, _, _, rfl, rfl, _, rfl, ?_⟩
            refine iteD (fun c254 => ?_) (fun c254 => ?_)
            · have hw := cW_pos c254 hw
              refine ⟨_, _, rfl, rfl, rfl, rfl, G248, _, _, rfl, S247.sG, cW_call hw (fun v255 hw => ?_) (fun e he => hE e he _ S247.b0)⟩
              have hw := cW_ok hw
              have hw := hK253 _ hw
              exact ⟨_, rfl, (Same.refl _), S247, hw⟩
            · have hw := cW_neg c254 hw
              refine ⟨rfl, rfl, G248, _, _, rfl, S247.sG, cW_call hw (fun v256 hw => ?_) (fun e he => hE e he _ S247.b0)⟩
              have hw := cW_ok hw
              have hw := hK253 _ hw
              exact ⟨_, rfl, (Same.refl _), S247, hw⟩
          · intro σ H257 hw
            obtain ⟨G259, rfl, eG260, S258, hw⟩ := hw
            unfold F__check_numbers_k4 at hw
            refine ⟨fun σ H' => ∃ (G' : Hp), σ = [some (V.ref p_settings), some (V.ref p_header)] ∧ Same G259 G' ∧ Sep [] H G G' H' [] ∧ cW (F__check_numbers_k5 (settings') (header') ) KK EE, ?_, ?_⟩
            · obtain ⟨K263, hK264, hw⟩ := cW_push hw
              refine ⟨_, rfl, _, _, _, _, _, rfl, (S258.bM _ _ h_p_header), T.cl_PictureHeader, T.n_PictureHeader_weight, rfl, _, _, rfl, rfl, _, rfl, ?_⟩
              refine iteB (fun c265 => ?_) (fun c265 => ?_)
              · have hw := cW_pos c265 hw
                refine ⟨rfl, rfl, G259, _, _, rfl, S258.sG, cW_call hw (fun v266 hw => ?_) (fun e he => hE e he _ S258.b0)⟩
                have hw := cW_ok hw
                have hw := hK264 _ hw
                exact ⟨_, rfl, (Same.refl _), S258, hw⟩
              · have hw := cW_negB c265 hw
                refine ⟨_, rfl, _, _, _, _, _, rfl, (S258.bM _ _ h_p_header), T.cl_PictureHeader, T.n_PictureHeader_kind, rfl, rfl, rfl, rfl, G259, _, _, rfl, S258.sG, cW_call hw (fun v267 hw => ?_) (fun e he => hE e he _ S258.b0)⟩
                have hw := cW_ok hw
                have hw := hK264 _ hw
                exact ⟨_, rfl, (Same.refl _), S258, hw⟩
            · intro σ H268 hw
              obtain ⟨G270, rfl, eG271, S269, hw⟩ := hw
              unfold F__check_numbers_k5 at hw
              refine ⟨fun σ H' => ∃ (G' : Hp), σ = [some (V.ref p_settings), some (V.ref p_header)] ∧ Same G270 G' ∧ Sep [] H G G' H' [] ∧ cW (F__check_numbers_k6 (settings') (header') ) KK EE, ?_, ?_⟩
              · obtain ⟨K274, hK275, hw⟩ := cW_push hw
                refine ⟨_, rfl, _, _, _, _, _, rfl, (S269.bM _ _ h_p_header), T.cl_PictureHeader, T.n_PictureHeader_layer, rfl, _, _, rfl, rfl, _, rfl, ?_⟩
                refine iteD (fun c276 => ?_) (fun c276 => ?_)
                · have hw := cW_pos c276 hw
                  refine ⟨_, rfl, _, _, _, _, _, rfl, (S269.bM _ _ h_p_settings), T.cl_Settings, T.n_Settings_layers, rfl, _, _, rfl, rfl, rfl, rfl, G270, _, _, rfl, S269.sG, cW_call hw (fun v277 hw => ?_) (fun e he => hE e he _ S269.b0)⟩
                  have hw := cW_ok hw
                  have hw := hK275 _ hw
                  exact ⟨_, rfl, (Same.refl _), S269, hw⟩
                · have hw := cW_neg c276 hw
                  refine ⟨rfl, rfl, G270, _, _, rfl, S269.sG, cW_call hw (fun v278 hw => ?_) (fun e he => hE e he _ S269.b0)⟩
                  have hw := cW_ok hw
                  have hw := hK275 _ hw
                  exact ⟨_, rfl, (Same.refl _), S269, hw⟩
              · intro σ H279 hw
                obtain ⟨G281, rfl, eG282, S280, hw⟩ := hw
                unfold F__check_numbers_k6 at hw
                refine ⟨fun σ H' => ∃ (G' : Hp), σ = [some (V.ref p_settings), some (V.ref p_header)] ∧ Same G281 G' ∧ Sep [] H G G' H' [] ∧ cW (F__check_numbers_k7 (settings') (header') ) KK EE, ?_, ?_⟩
                · obtain ⟨K285, hK286, hw⟩ := cW_push hw
                  refine ⟨_, rfl, _, rfl, _, _, _, _, _, rfl, (S280.bM _ _ h_p_header), T.cl_PictureHeader, T.n_PictureHeader_edge, rfl, _, _, rfl, rfl, _, rfl, ?_⟩
                  refine iteD (fun c287 => ?_) (fun c287 => ?_)
                  · have hw := cW_pos c287 hw
                    refine ⟨_, _, rfl, rfl, rfl, rfl, G281, _, _, rfl, S280.sG, cW_call hw (fun v288 hw => ?_) (fun e he => hE e he _ S280.b0)⟩
                    have hw := cW_ok hw
                    have hw := hK286 _ hw
                    exact ⟨_, rfl, (Same.refl _), S280, hw⟩
                  · have hw := cW_neg c287 hw
                    refine ⟨rfl, rfl, G281, _, _, rfl, S280.sG, cW_call hw (fun v289 hw => ?_) (fun e he => hE e he _ S280.b0)⟩
                    have hw := cW_ok hw
                    have hw := hK286 _ hw
                    exact ⟨_, rfl, (Same.refl _), S280, hw⟩
                · intro σ H290 hw
                  obtain ⟨G292, rfl, eG293, S291, hw⟩ := hw
                  unfold F__check_numbers_k7 at hw
                  refine ⟨_, rfl, _, _, _, _, _, rfl, (S291.bM _ _ h_p_header), T.cl_PictureHeader, T.n_PictureHeader_edge, rfl, _, _, rfl, rfl, _, rfl, ?_⟩
                  refine iteB (fun c294 => ?_) (fun c294 => ?_)
                  · have hw := cW_pos c294 hw
                    refine ⟨rfl, rfl, G292, _, _, rfl, S291.sG, cW_call hw (fun v295 hw => ?_) (fun e he => hE e he _ S291.b0)⟩
                    have hw := cW_ok hw
                    exact hK0 _ hw _ S291.b0
                  · have hw := cW_negB c294 hw
                    refine ⟨_, rfl, _, _, _, _, _, rfl, (S291.bM _ _ h_p_settings), T.cl_Settings, T.n_Settings_deblock, rfl, rfl, rfl, G292, _, _, rfl, S291.sG, cW_call hw (fun v296 hw => ?_) (fun e he => hE e he _ S291.b0)⟩
                    have hw := cW_ok hw
                    exact hK0 _ hw _ S291.b0

abbrev N__check_slots : List Str := ["settings", "header", "slot", "ascending", "counts"]
theorem sc__check_slots : FnScope N__check_slots ["settings", "header"] (defScope s__check_slots) := ⟨rfl, rfl, rfl, by decide +kernel, rfl, by decide +kernel, by decide +kernel⟩
theorem ok__check_slots (D : DefX K mg "_check_slots" s__check_slots ["settings", "header"] pats__check_slots) (T : Txt w K mg AD) (c__require : CalX P w K mg base 1 "_require" (sp__require K AD) pats__require) : CalX P w K mg base 2 "_check_slots" (sp__check_slots K AD) pats__check_slots := by
  refine D.ok sc__check_slots (fun vs H Q E h => ?_) (fun f cdv A_ outer s H vs Q E hr h => ?_)
  · obtain ⟨G, p_settings, p_settings_fmt, dx_settings, dx_settings_fmt, settings', p_header, l_header_store, l_header_refs, dx_header, header', rfl, _⟩ := h
    rfl
  · obtain ⟨G, p_settings, p_settings_fmt, dx_settings, dx_settings_fmt, settings', p_header, l_header_store, l_header_refs, dx_header, header', rfl, sG, h_p_settings, h_p_settings_fmt, h_p_header, h_l_header_store, h_l_header_refs, hw⟩ := h
    refine ⟨_, (pss_cons (ps_for (passes_of rfl) rfl (pi_listK (K := K) (pe_op op_cat (fldK (K := K) (pv 1)) (fldK (K := K) (pv 1)))) (pg_name (i := 2) sc__check_slots.nd rfl (Or.inl rfl)) (pss_one (ps_expr (vx_callX c__require pat__require_0 (.head _) hr (by decide) (takes_of rfl rfl rfl rfl) rfl (pa_cons (pe_chain op_le op_lt pe_int (pv 2) (fldK (K := K) (pv 0))) (pa_cons pe_str pa_nil)) pk_nil))))
      (pss_cons (ps_set (i := 3) sc__check_slots.nd rfl (Or.inl rfl) (pe_callB (cr_sortSet (w := w) rfl) (by rfl) T.b_sorted (by decide +kernel) (pa_cons (pe_callTy (cr_setI (K := K) (w := w) rfl) (by rfl) T.b_set (by decide +kernel) (pa_cons (fldK (K := K) (pv 1)) pa_nil)) pa_nil)))
      (pss_cons (ps_expr (vx_callX c__require pat__require_0 (.head _) hr (by decide) (takes_of rfl rfl rfl rfl) rfl (pa_cons (pe_cmpR (op_eqT (encOk_L encOk_int) hr.units) (fldK (K := K) (pv 1)) (pv 3) (nomark _)) (pa_cons pe_str pa_nil)) pk_nil))
      (pss_cons (ps_set (i := 4) sc__check_slots.nd rfl (Or.inl rfl) (pe_ix (ix_DA (w := w) (K := K)) (C8.pe_gc (v := V.ref AD.t_REF_COUNTS) rfl T.g_REF_COUNTS) (fldK (K := K) (pv 1)) (fun _ _ => rfl)))
      (pss_one (ps_expr (vx_callX c__require pat__require_0 (.head _) hr (by decide) (takes_of rfl rfl rfl rfl) rfl (pa_cons (pe_cmpR (op_inI (K := K)) (pe_callB (call_lenLiK (K := K)) (by rfl) T.b_len (by decide +kernel) (pa_cons (fldK (K := K) (pv 1)) pa_nil)) (pv 4) (by with_unfolding_all rfl)) (pa_cons pe_str pa_nil)) pk_nil))))))), ?_⟩
    obtain ⟨KK, EE, hK0, hE, hw⟩ := cW_gen hw
    have S0 := Sep.startG sG
    unfold F__check_slots at hw
    obtain ⟨g297, hw⟩ := cW_grd hw
    refine ⟨_, rfl, _, _, _, _, _, rfl, (S0.bM _ _ h_p_header), T.cl_PictureHeader, T.n_PictureHeader_store, rfl, _, rfl, _, _, _, _, _, rfl, (S0.bM _ _ h_p_header), T.cl_PictureHeader, T.n_PictureHeader_refs, rfl, _, _, _, _, rfl, rfl, (S0.bM _ _ h_l_header_store), (S0.bM _ _ h_l_header_refs), (cat_lenM g297), fun p298 n299 => ?_⟩
    generalize g300 : upd H p298 _ = H301
    obtain ⟨e302, h303⟩ := gen_new n299 g300
    have h304 : H301 p298 = some (.lst (((header'.store) ++ (header'.refs) : (List Int)).map V.int)) := cat_map h303
    have fr305 := S0.free n299
    have S306 := S0.new n299 e302 h304 fr305
    obtain ⟨K309, hK310, hw⟩ := cW_push hw
    refine ⟨_, rfl, ⟨_, (SqL.of h304)⟩, for_list (K := K) (a := p298) (xs := ((header'.store) ++ (header'.refs) : (List Int)).map V.int) (fun i σ H' => ∃ (u311 : Option V) (G' : Hp), σ = [some (V.ref p_settings), some (V.ref p_header), u311, none, none] ∧ Same G G' ∧ Sep [] H G G' H' [p298] ∧ H' p298 = some (.lst (((header'.store) ++ (header'.refs) : (List Int)).map V.int)) ∧ cW (forS (List.drop i ((header'.store) ++ (header'.refs))) () (fun s x => F__check_slots_b1 (settings')  x)) K309 EE) ?_ ?_ ?_ ?_⟩
    · exact ⟨_, _, rfl, (Same.refl _), S306, h304, hw⟩
    · intro i σ H312 _ hw
      obtain ⟨u311, G315, rfl, eG316, S313, h314, hw⟩ := hw
      exact (SqL.of h314)
    · intro i x σ H317 hj hw
      obtain ⟨u311, G320, rfl, eG321, S318, h319, hw⟩ := hw
      obtain ⟨x322, hx, rfl⟩ := map_get hj
      have hw := cW_forS hx hw
      have hw : cW (F__check_slots_b1 (settings')  (x322)) _ EE := hw
      unfold F__check_slots_b1 at hw
      obtain ⟨K323, hK324, hw⟩ := cW_name hw
      refine vv_chain (ta := (tC (V.int 0))) (tb := (tVar 2)) (tc := (tFld K (tVar 0) "slots")) (r := (rI0 fun i j => V.bl (decide (i ≤ j)))) (r' := (rI0 fun i j => V.bl (decide (i < j)))) (x := V.int (0)) (y := V.int (x322)) (z := V.int (settings'.slots)) (a := decide (0 ≤ x322)) (b := decide (x322 < settings'.slots)) ?hx326 ?hy327 ?hz328 (fun Q q => ⟨_, _, rfl, rfl, q⟩) (fun Q q => ⟨_, _, rfl, rfl, q⟩) _ ?_
      case hx326 => exact val_c
      case hy327 => exact (val_var rfl)
      case hz328 => exact (val_fld (val_var rfl) (S318.bM _ _ h_p_settings) T.cl_Settings T.n_Settings_slots rfl)
      refine ⟨rfl, rfl, G320, _, _, rfl, S318.sG, cW_call hw (fun v329 hw => ?_) (fun e he => hE e he _ S318.b0)⟩
      have hw := cW_ok hw
      have hw := hK324 _ hw
      exact ⟨_, _, rfl, eG321, S318, h319, hw⟩
    · intro σ H330 hw
      obtain ⟨u311, G333, rfl, eG334, S331, h332, hw⟩ := hw
      have hw := hK310 _ (cW_forS0 (by rw [List.length_map]) hw)
      have hw : cW (F__check_slots_r1 (header') ) _ EE := hw
      unfold F__check_slots_r1 at hw
      obtain ⟨g335, hw⟩ := cW_grd hw
      refine ⟨_, rfl, _, _, _, _, _, rfl, (S331.bM _ _ h_p_header), T.cl_PictureHeader, T.n_PictureHeader_store, rfl, _, _, rfl, (SqL.of (S331.bM _ _ h_l_header_store)), g335, fun p336 n337 n338 n339 => ⟨_, _, n337, rfl, upd_same, Nat.le_trans n338 g335, ?_⟩⟩
      refine fun ns340 p341 pw342 mm343 n344 => ?_
      generalize g345 : upd (upd H330 p336 _) p341 _ = H346
      obtain ⟨e347, h348, n349⟩ := gen_new2 n339 n344 g345
      obtain rfl := sortSet_of pw342 mm343
      have h350 : H346 p341 = some (.lst (((sortSet (header'.store)) : (List Int)).map V.int)) := h348
      have fr351 := S331.free n349
      have S352 := S331.new n349 e347 h350 fr351
      refine ⟨_, rfl, _, _, _, _, _, rfl, (S352.bM _ _ h_p_header), T.cl_PictureHeader, T.n_PictureHeader_store, rfl, _, rfl, _, _, (rp_mk_ints (S352.bM _ _ h_l_header_store)), (rp_mk_ints h350), rfl, rfl, G333, _, _, rfl, S352.sG, cW_call hw (fun v353 hw => ?_) (fun e he => hE e he _ S352.b0)⟩
      obtain ⟨g354, hw⟩ := cW_grd hw
      refine ⟨_, rfl, _, _, _, _, _, rfl, (S352.bM _ _ h_p_header), T.cl_PictureHeader, T.n_PictureHeader_kind, rfl, _, _, ([("I", AD.t_REF_COUNTS_0), ("P", AD.t_REF_COUNTS_1), ("B", AD.t_REF_COUNTS_2)] : List (Str × Addr)), _, rfl, rfl, T.kd_REF_COUNTS, (lookG_at (T.th_REF_COUNTS _ g354)), _, rfl, _, _, _, _, _, rfl, (S352.bM _ _ h_p_header), T.cl_PictureHeader, T.n_PictureHeader_refs, rfl, _, _, rfl, (SqL.of (S352.bM _ _ h_l_header_refs)), _, rfl, _, _, ((dictG ([("I", [0]), ("P", [1, 2]), ("B", [2])] : List (Str × List Int)) (header'.kind)) : List Int), rfl, rfl, (.inr ((T.tt_REF_COUNTS _ g354) _)), rfl, rfl, G333, _, _, rfl, S352.sG, cW_call hw (fun v355 hw => ?_) (fun e he => hE e he _ S352.b0)⟩
      have hw := cW_ok hw
      exact hK0 _ hw _ S352.b0

abbrev N_PictureHeader___init__ : List Str := ["self", "settings", "number", "kind", "level", "store", "refs", "weight", "layer", "shown", "edge"]
theorem sc_PictureHeader___init__ : FnScope N_PictureHeader___init__ ["self", "settings", "number", "kind", "level", "store", "refs", "weight", "layer", "shown", "edge"] (defScope s_PictureHeader___init__) := ⟨rfl, rfl, rfl, by decide +kernel, rfl, by decide +kernel, by decide +kernel⟩
theorem ok_PictureHeader___init__ (D : InitX K mg AD.c_PictureHeader "PictureHeader" "PictureHeader.__init__" s_PictureHeader___init__ ["self", "settings", "number", "kind", "level", "store", "refs", "weight", "layer", "shown", "edge"] (pats_PictureHeader___init__ AD)) (T : Txt w K mg AD) (c__check_numbers : CalX P w K mg base 2 "_check_numbers" (sp__check_numbers K AD) pats__check_numbers) (c__check_slots : CalX P w K mg base 2 "_check_slots" (sp__check_slots K AD) pats__check_slots) : MakX P w K mg base 3 "PictureHeader" AD.c_PictureHeader (sp_PictureHeader___init__ K AD) (pats_PictureHeader___init__ AD) := by
  refine D.ok sc_PictureHeader___init__ (fun vs H Q E h => ?_) (fun f cdv A_ outer s H vs Q E hr h => ?_)
  · obtain ⟨G, p_self, dx_self, p_settings, p_settings_fmt, dx_settings, dx_settings_fmt, settings', number', kind', level', v_store, store', v_refs, refs', weight', layer', shown', edge', rfl, _⟩ := h
    rfl
  · obtain ⟨G, p_self, dx_self, p_settings, p_settings_fmt, dx_settings, dx_settings_fmt, settings', number', kind', level', v_store, store', v_refs, refs', weight', layer', shown', edge', rfl, sG, gM, h_self, h_p_settings, h_p_settings_fmt, r_store, r_refs, hw⟩ := h
    refine ⟨_, (pss_cons (ps_fld (pv 0) (pv 2) rfl)
      (pss_cons (ps_fld (pv 0) (pv 3) rfl)
      (pss_cons (ps_fld (pv 0) (pv 4) rfl)
      (pss_cons (ps_fld (pv 0) (pe_callTy (call_listSI (K := K)) (by rfl) T.b_list (by decide +kernel) (pa_cons (pv 5) pa_nil)) rfl)
      (pss_cons (ps_fld (pv 0) (pe_callTy (call_listSI (K := K)) (by rfl) T.b_list (by decide +kernel) (pa_cons (pv 6) pa_nil)) rfl)
      (pss_cons (ps_fld (pv 0) (pv 7) rfl)
      (pss_cons (ps_fld (pv 0) (pv 8) rfl)
      (pss_cons (ps_fld (pv 0) (pv 9) rfl)
      (pss_cons (ps_fld (pv 0) (pv 10) rfl)
      (pss_cons (ps_expr (vx_callX c__check_numbers pat__check_numbers_0 (.head _) hr (by decide) (takes_of rfl rfl rfl rfl) rfl (pa_cons (pv 1) (pa_cons (pv 0) pa_nil)) pk_nil))
      (pss_one (ps_expr (vx_callX c__check_slots pat__check_slots_0 (.head _) hr (by decide) (takes_of rfl rfl rfl rfl) rfl (pa_cons (pv 1) (pa_cons (pv 0) pa_nil)) pk_nil))))))))))))), ?_⟩
    obtain ⟨KK, EE, hK0, hE, hw⟩ := cW_gen hw
    have S0 := Sep.startM (M := [p_self]) sG (all_cons (some_ne h_self) all_nil) gM
    unfold F_PictureHeader___init__ at hw
    refine ⟨_, rfl, _, rfl, _, _, _, _, rfl, h_self, T.cl_PictureHeader, T.n_PictureHeader_number, (by show 0 < 1000; decide), ?_⟩
    generalize g356 : upd H p_self _ = H357
    obtain ⟨x358, h359⟩ := gen_mut g356
    have h360 : H357 p_self = some (.ins AD.c_PictureHeader dx_self [("number", V.int (number'))]) := h359
    have S361 := S0.mut1 x358 (.head _) h360
    refine ⟨_, rfl, _, rfl, _, _, _, _, rfl, h360, T.cl_PictureHeader, T.n_PictureHeader_kind, (by show 1 < 1000; decide), ?_⟩
    generalize g362 : upd H357 p_self _ = H363
    obtain ⟨x364, h365⟩ := gen_mut g362
    have h366 : H363 p_self = some (.ins AD.c_PictureHeader dx_self [("number", V.int (number')), ("kind", V.str (kind'))]) := h365
    have S367 := S361.mut1 x364 (.head _) h366
    refine ⟨_, rfl, _, rfl, _, _, _, _, rfl, h366, T.cl_PictureHeader, T.n_PictureHeader_level, (by show 2 < 1000; decide), ?_⟩
    generalize g368 : upd H363 p_self _ = H369
    obtain ⟨x370, h371⟩ := gen_mut g368
    have h372 : H369 p_self = some (.ins AD.c_PictureHeader dx_self [("number", V.int (number')), ("kind", V.str (kind')), ("level", V.int (level'))]) := h371
    have S373 := S367.mut1 x370 (.head _) h372
    refine ⟨_, rfl, _, _, rfl, (SeqI.mono S373.bM r_store), fun p374 n375 => ?_⟩
    generalize g376 : upd H369 p374 _ = H377
    obtain ⟨e378, h379⟩ := gen_new n375 g376
    have h380 : H377 p374 = some (.lst ((store' : (List Int)).map V.int)) := h379
    have fr381 := S373.free n375
    have S382 := S373.new n375 e378 h380 fr381
    have h383 := (e378 _ _ h372)
    refine ⟨_, rfl, _, _, _, _, rfl, h383, T.cl_PictureHeader, T.n_PictureHeader_store, (by show 3 < 1000; decide), ?_⟩
    generalize g384 : upd H377 p_self _ = H385
    obtain ⟨x386, h387⟩ := gen_mut g384
    have h388 : H385 p_self = some (.ins AD.c_PictureHeader dx_self [("number", V.int (number')), ("kind", V.str (kind')), ("level", V.int (level')), ("store", V.ref p374)]) := h387
    have S389 := S382.mut1 x386 (.tail _ (.head _)) h388
    refine ⟨_, rfl, _, _, rfl, (SeqI.mono S389.bM r_refs), fun p390 n391 => ?_⟩
    generalize g392 : upd H385 p390 _ = H393
    obtain ⟨e394, h395⟩ := gen_new n391 g392
    have h396 : H393 p390 = some (.lst ((refs' : (List Int)).map V.int)) := h395
    have fr397 := S389.free n391
    have S398 := S389.new n391 e394 h396 fr397
    have h399 := (e394 _ _ h388)
    refine ⟨_, rfl, _, _, _, _, rfl, h399, T.cl_PictureHeader, T.n_PictureHeader_refs, (by show 4 < 1000; decide), ?_⟩
    generalize g400 : upd H393 p_self _ = H401
    obtain ⟨x402, h403⟩ := gen_mut g400
    have h404 : H401 p_self = some (.ins AD.c_PictureHeader dx_self [("number", V.int (number')), ("kind", V.str (kind')), ("level", V.int (level')), ("store", V.ref p374), ("refs", V.ref p390)]) := h403
    have S405 := S398.mut1 x402 (.tail _ (.tail _ (.head _))) h404
    refine ⟨_, rfl, _, rfl, _, _, _, _, rfl, h404, T.cl_PictureHeader, T.n_PictureHeader_weight, (by show 5 < 1000; decide), ?_⟩
    generalize g406 : upd H401 p_self _ = H407
    obtain ⟨x408, h409⟩ := gen_mut g406
    have h410 : H407 p_self = some (.ins AD.c_PictureHeader dx_self [("number", V.int (number')), ("kind", V.str (kind')), ("level", V.int (level')), ("store", V.ref p374), ("refs", V.ref p390), ("weight", V.int (weight'))]) := h409
    have S411 := S405.mut1 x408 (.tail _ (.tail _ (.head _))) h410
    refine ⟨_, rfl, _, rfl, _, _, _, _, rfl, h410, T.cl_PictureHeader, T.n_PictureHeader_layer, (by show 6 < 1000; decide), ?_⟩
    generalize g412 : upd H407 p_self _ = H413
    obtain ⟨x414, h415⟩ := gen_mut g412
    have h416 : H413 p_self = some (.ins AD.c_PictureHeader dx_self [("number", V.int (number')), ("kind", V.str (kind')), ("level", V.int (level')), ("store", V.ref p374), ("refs", V.ref p390), ("weight", V.int (weight')), ("layer", V.int (layer'))]) := h415
    have S417 := S411.mut1 x414 (.tail _ (.tail _ (.head _))) h416
    refine ⟨_, rfl, _, rfl, _, _, _, _, rfl, h416, T.cl_PictureHeader, T.n_PictureHeader_shown, (by show 7 < 1000; decide), ?_⟩
    generalize g418 : upd H413 p_self _ = H419
    obtain ⟨x420, h421⟩ := gen_mut g418
    have h422 : H419 p_self = some (.ins AD.c_PictureHeader dx_self [("number", V.int (number')), ("kind", V.str (kind')), ("level", V.int (level')), ("store", V.ref p374), ("refs", V.ref p390), ("weight", V.int (weight')), ("layer", V.int (layer')), ("shown", V.bl (shown'))]) := h421
    have S423 := S417.mut1 x420 (.tail _ (.tail _ (.head _))) h422
    refine ⟨_, rfl, _, rfl, _, _, _, _, rfl, h422, T.cl_PictureHeader, T.n_PictureHeader_edge, (by show 8 < 1000; decide), ?_⟩
    generalize g424 : upd H419 p_self _ = H425
    obtain ⟨x426, h427⟩ := gen_mut g424
    have h428 : H425 p_self = some (.ins AD.c_PictureHeader dx_self [("number", V.int (number')), ("kind", V.str (kind')), ("level", V.int (level')), ("store", V.ref p374), ("refs", V.ref p390), ("weight", V.int (weight')), ("layer", V.int (layer')), ("shown", V.bl (shown')), ("edge", V.int (edge'))]) := h427
    have S429 := S423.mut1 x426 (.tail _ (.tail _ (.head _))) h428
    have h430 := (x426 _ _ (x420 _ _ (x414 _ _ (x408 _ _ (x402 _ _ (e394 _ _ (x386 _ _ h380 (ne_of_none h372 n375).symm)) (ne_of_none h372 n375).symm) (ne_of_none h372 n375).symm) (ne_of_none h372 n375).symm) (ne_of_none h372 n375).symm) (ne_of_none h372 n375).symm)
    have h431 := (x426 _ _ (x420 _ _ (x414 _ _ (x408 _ _ (x402 _ _ h396 (ne_of_none h388 n391).symm) (ne_of_none h388 n391).symm) (ne_of_none h388 n391).symm) (ne_of_none h388 n391).symm) (ne_of_none h388 n391).symm)
    refine ⟨_, rfl, _, rfl, rfl, rfl, G, _, _, _, _, settings', _, _, _, _, (⟨number', kind', level', store', refs', weight', layer', shown', edge'⟩ : St_PictureHeader), rfl, S429.sG, (hide_nil (S429.bM _ _ h_p_settings)), (hide_nil (S429.bM _ _ h_p_settings_fmt)), (hide_nil h428), (hide_nil h430), (hide_nil h431), cW_call hw (fun v432 hw H433 e434 => ?_) (fun e he H2 e2 => hE e he H2 (fun b o h n => e2 _ _ ((sameX_of S429.base) b o h n)))⟩
    have S435 := S429.same e434
    have h436 := (e434 _ _ h428)
    have h437 := (e434 _ _ h430)
    have h438 := (e434 _ _ h431)
    refine ⟨_, rfl, _, rfl, rfl, rfl, G, _, _, _, _, settings', _, _, _, _, (⟨number', kind', level', store', refs', weight', layer', shown', edge'⟩ : St_PictureHeader), rfl, S435.sG, (hide_nil (S435.bM _ _ h_p_settings)), (hide_nil (S435.bM _ _ h_p_settings_fmt)), (hide_nil h436), (hide_nil h437), (hide_nil h438), cW_call hw (fun v439 hw H440 e441 => ?_) (fun e he H2 e2 => hE e he H2 (fun b o h n => e2 _ _ ((sameX_of S435.base) b o h n)))⟩
    have S442 := S435.same e441
    have h443 := (e441 _ _ h436)
    have h444 := (e441 _ _ h437)
    have h445 := (e441 _ _ h438)
    have hw := cW_ok hw
    exact hK0 _ hw _ _ _ (sameX_of S442.base) fr381 fr397 (ne_of_none (x386 _ _ h380 (ne_of_none h372 n375).symm) n391) h443 h444 h445

abbrev N_Format___init__ : List Str := ["self", "width", "height", "depth", "chroma"]
theorem sc_Format___init__ : FnScope N_Format___init__ ["self", "width", "height", "depth", "chroma"] (defScope s_Format___init__) := ⟨rfl, rfl, rfl, by decide +kernel, rfl, by decide +kernel, by decide +kernel⟩
theorem ok_Format___init__ (D : InitX K mg AD.c_Format "Format" "Format.__init__" s_Format___init__ ["self", "width", "height", "depth", "chroma"] pats_Format___init__) (T : Txt w K mg AD)  : MakX P w K mg base 1 "Format" AD.c_Format (sp_Format___init__ K AD) pats_Format___init__ := by
  refine D.ok sc_Format___init__ (fun vs H Q E h => ?_) (fun f cdv A_ outer s H vs Q E hr h => ?_)
  · obtain ⟨G, p_self, dx_self, width', height', depth', chroma', rfl, _⟩ := h
    rfl
  · obtain ⟨G, p_self, dx_self, width', height', depth', chroma', rfl, sG, gM, h_self, hw⟩ := h
    refine ⟨_, (pss_cons (ps_if (pt_not (PW.pt (pw_and (pt_chain op_le op_le pe_int (pv 1) pe_int) (pw_and1 (pt_chain op_le op_le pe_int (pv 2) pe_int))))) (pss_one (ps_raise rfl (takes_of rfl rfl rfl rfl) (pmk_own PySem.F.excBase_ValueError T.xx_BadFormat T.xg_BadFormat T.xk_BadFormat (raises_own T.xb_BadFormat T.xt_BadFormat) rfl))) pss_nil)
      (pss_cons (ps_if (pt_not (pt_chain op_le op_le pe_int (pv 3) pe_int)) (pss_one (ps_raise rfl (takes_of rfl rfl rfl rfl) (pmk_own PySem.F.excBase_ValueError T.xx_BadFormat T.xg_BadFormat T.xk_BadFormat (raises_own T.xb_BadFormat T.xt_BadFormat) rfl))) pss_nil)
      (pss_cons (ps_if (pt_not (pt_chain op_le op_le pe_int (pv 4) pe_int)) (pss_one (ps_raise rfl (takes_of rfl rfl rfl rfl) (pmk_own PySem.F.excBase_ValueError T.xx_BadFormat T.xg_BadFormat T.xk_BadFormat (raises_own T.xb_BadFormat T.xt_BadFormat) rfl))) pss_nil)
      (pss_cons (ps_fld (pv 0) (pv 1) rfl)
      (pss_cons (ps_fld (pv 0) (pv 2) rfl)
      (pss_cons (ps_fld (pv 0) (pv 3) rfl)
      (pss_one (ps_fld (pv 0) (pv 4) rfl)))))))), ?_⟩
    obtain ⟨KK, EE, hK0, hE, hw⟩ := cW_gen hw
    have S0 := Sep.startM (M := [p_self]) sG (all_cons (some_ne h_self) all_nil) gM
    unfold F_Format___init__ at hw
    refine ⟨_, rfl, _, _, rfl, rfl, _, rfl, ?_⟩
    refine iteD (fun c446 => ?_) (fun c446 => ?_)
    · have hw := cW_pos c446 hw
      refine ⟨_, _, rfl, rfl, _, rfl, ?_⟩
      refine iteD (fun c447 => ?_) (fun c447 => ?_)
      · have hw := cW_pos c447 hw
        refine ⟨_, rfl, _, _, rfl, rfl, _, rfl, ?_⟩
        refine iteD (fun c448 => ?_) (fun c448 => ?_)
        · have hw := cW_pos c448 hw
          refine ⟨_, _, rfl, rfl, _, rfl, ?_⟩
          refine iteN (fun c449 => ?_) (fun c449 => ?_)
          · have hw := cW_neg c449 hw
            exact hE 1 (cW_er hw) _ (sameX_of S0.base)
          · have hw := cW_pos c449 hw
            refine ⟨_, rfl, _, _, rfl, rfl, _, rfl, ?_⟩
            refine iteD (fun c450 => ?_) (fun c450 => ?_)
            · have hw := cW_pos c450 hw
              refine ⟨_, _, rfl, rfl, _, rfl, ?_⟩
              refine iteN (fun c451 => ?_) (fun c451 => ?_)
              · have hw := cW_neg c451 hw
                exact hE 1 (cW_er hw) _ (sameX_of S0.base)
              · have hw := cW_pos c451 hw
                refine ⟨_, rfl, _, _, rfl, rfl, _, rfl, ?_⟩
                refine iteD (fun c452 => ?_) (fun c452 => ?_)
                · have hw := cW_pos c452 hw
                  refine ⟨_, _, rfl, rfl, _, rfl, ?_⟩
                  refine iteN (fun c453 => ?_) (fun c453 => ?_)
                  · have hw := cW_neg c453 hw
                    exact hE 1 (cW_er hw) _ (sameX_of S0.base)
                  · have hw := cW_pos c453 hw
                    refine ⟨_, rfl, _, rfl, _, _, _, _, rfl, h_self, T.cl_Format, T.n_Format_width, (by show 0 < 1000; decide), ?_⟩
                    generalize g454 : upd H p_self _ = H455
                    obtain ⟨x456, h457⟩ := gen_mut g454
                    have h458 : H455 p_self = some (.ins AD.c_Format dx_self [("width", V.int (width'))]) := h457
                    have S459 := S0.mut1 x456 (.head _) h458
                    refine ⟨_, rfl, _, rfl, _, _, _, _, rfl, h458, T.cl_Format, T.n_Format_height, (by show 1 < 1000; decide), ?_⟩
                    generalize g460 : upd H455 p_self _ = H461
                    obtain ⟨x462, h463⟩ := gen_mut g460
                    have h464 : H461 p_self = some (.ins AD.c_Format dx_self [("width", V.int (width')), ("height", V.int (height'))]) := h463
                    have S465 := S459.mut1 x462 (.head _) h464
                    refine ⟨_, rfl, _, rfl, _, _, _, _, rfl, h464, T.cl_Format, T.n_Format_depth, (by show 2 < 1000; decide), ?_⟩
                    generalize g466 : upd H461 p_self _ = H467
                    obtain ⟨x468, h469⟩ := gen_mut g466
                    have h470 : H467 p_self = some (.ins AD.c_Format dx_self [("width", V.int (width')), ("height", V.int (height')), ("depth", V.int (depth'))]) := h469
                    have S471 := S465.mut1 x468 (.head _) h470
                    refine ⟨_, rfl, _, rfl, _, _, _, _, rfl, h470, T.cl_Format, T.n_Format_chroma, (by show 3 < 1000; decide), ?_⟩
                    generalize g472 : upd H467 p_self _ = H473
                    obtain ⟨x474, h475⟩ := gen_mut g472
                    have h476 : H473 p_self = some (.ins AD.c_Format dx_self [("width", V.int (width')), ("height", V.int (height')), ("depth", V.int (depth')), ("chroma", V.int (chroma'))]) := h475
                    have S477 := S471.mut1 x474 (.head _) h476
                    have hw := cW_ok hw
                    exact hK0 _ hw _ (sameX_of S477.base) h476
                · have hw := cW_neg c452 hw
                  refine ⟨_, rfl, ?_⟩
                  refine iteT ?_
                  exact hE 1 (cW_er hw) _ (sameX_of S0.base)
            · have hw := cW_neg c450 hw
              refine ⟨_, rfl, ?_⟩
              refine iteT ?_
              exact hE 1 (cW_er hw) _ (sameX_of S0.base)
        · have hw := cW_neg c448 hw
          refine ⟨_, rfl, ?_⟩
          refine iteT ?_
          exact hE 1 (cW_er hw) _ (sameX_of S0.base)
      · have hw := cW_neg c447 hw
        refine iteT ?_
        exact hE 1 (cW_er hw) _ (sameX_of S0.base)
    · have hw := cW_neg c446 hw
      refine ⟨_, rfl, ?_⟩
      refine iteF ?_
      refine iteT ?_
      exact hE 1 (cW_er hw) _ (sameX_of S0.base)

abbrev N__law_header : List Str := ["n", "kind", "refs", "weight", "settings"]
theorem sc__law_header : FnScope N__law_header ["n", "kind", "refs", "weight"] (defScope s__law_header) := ⟨rfl, rfl, rfl, by decide +kernel, rfl, by decide +kernel, by decide +kernel⟩
theorem ok__law_header (D : DefX K mg "_law_header" s__law_header ["n", "kind", "refs", "weight"] pats__law_header) (T : Txt w K mg AD) (c_Settings___init__ : MakX P w K mg base 2 "Settings" AD.c_Settings (sp_Settings___init__ K AD) pats_Settings___init__) (c_Format___init__ : MakX P w K mg base 1 "Format" AD.c_Format (sp_Format___init__ K AD) pats_Format___init__) (c_PictureHeader___init__ : MakX P w K mg base 3 "PictureHeader" AD.c_PictureHeader (sp_PictureHeader___init__ K AD) (pats_PictureHeader___init__ AD)) : CalX P w K mg base 5 "_law_header" (sp__law_header K AD) pats__law_header := by
  refine D.ok sc__law_header (fun vs H Q E h => ?_) (fun f cdv A_ outer s H vs Q E hr h => ?_)
  · obtain ⟨G, a_n, n', kind', refs', weight', rfl, _⟩ := h
    rfl
  · obtain ⟨G, a_n, n', kind', refs', weight', rfl, sG, q_n, hw⟩ := h
    refine ⟨_, (pss_cons (ps_set (i := 4) sc__law_header.nd rfl (Or.inl rfl) (vx_makeX c_Settings___init__ pat_Settings___init___0 (.head _) hr (by decide) (takes_of rfl rfl rfl rfl) rfl (pa_cons (vx_makeX c_Format___init__ pat_Format___init___0 (.head _) hr (by decide) (takes_of rfl rfl rfl rfl) rfl (pa_cons (pe_ix (ix_listK (K := K)) (pv 0) pe_int (fun _ _ => rfl)) (pa_cons (pe_ix (ix_listK (K := K)) (pv 0) pe_int (fun _ _ => rfl)) pa_nil)) (pk_cons (pe_ix (ix_listK (K := K)) (pv 0) pe_int (fun _ _ => rfl)) (pk_cons (pe_ix (ix_listK (K := K)) (pv 0) pe_int (fun _ _ => rfl)) pk_nil))) pa_nil) (pk_cons pe_int pk_nil)))
      (pss_one (ps_ret (vx_makeX c_PictureHeader___init__ (pat_PictureHeader___init___0 AD) (.head _) hr (by decide) (takes_of rfl rfl rfl rfl) rfl (pa_cons (pv 4) pa_nil) (pk_cons pe_int (pk_cons (pe_ix (ix_listK (K := K)) (pe_lst (pa_cons pe_str (pa_cons pe_str (pa_cons pe_str pa_nil)))) (pv 1) (fun _ _ => rfl)) (pk_cons (pe_slice (sl_listK (K := K)) (pe_lst (pa_cons pe_int (pa_cons pe_int pa_nil))) po_none (po_some (pv 2))) (pk_cons (pv 3) pk_nil)))))))), ?_⟩
    obtain ⟨KK, EE, hK0, hE, hw⟩ := cW_gen hw
    have S0 := Sep.startG sG
    unfold F__law_header at hw
    obtain ⟨g478, hw⟩ := cW_grd hw
    obtain ⟨g479, hw⟩ := cW_grd hw
    obtain ⟨g480, hw⟩ := cW_grd hw
    obtain ⟨g481, hw⟩ := cW_grd hw
    refine ⟨_, rfl, _, _, _, _, rfl, rfl, (SqL.of (S0.bM _ _ q_n)), (atI_map g478), _, rfl, _, _, _, _, rfl, rfl, (SqL.of (S0.bM _ _ q_n)), (atI_map g479), _, rfl, _, _, _, _, rfl, rfl, (SqL.of (S0.bM _ _ q_n)), (atI_map g480), _, rfl, _, _, _, _, rfl, rfl, (SqL.of (S0.bM _ _ q_n)), (atI_map g481), rfl, rfl, fun x482 dx483 n484 n485 n486 => ?_⟩
    generalize g487 : upd (upd H dx483 _) x482 _ = H488
    obtain ⟨e489, h490⟩ := gen_obj n484 n485 n486 g487
    have fr491 := S0.free n484
    have S492 := S0.new n484 e489 h490 fr491
    refine ⟨G, _, _, _, _, _, _, rfl, S492.sG, (S492.gno (all_cons (.head _) all_nil)), h490, cW_call hw (fun v493 hw H494 x495 h496 => ⟨rfl, ?_⟩) (fun e he H2 e2 => hE e he H2 (Same.trans S0.b0 (same_mut e489 e2 n484)))⟩
    have S497 : Sep _ _ _ _ H494 [x482] := Sep.init S492 x495 (.head _) h496 [] all_nil
    refine ⟨rfl, rfl, fun x498 dx499 n500 n501 n502 => ?_⟩
    generalize g503 : upd (upd H494 dx499 _) x498 _ = H504
    obtain ⟨e505, h506⟩ := gen_obj n500 n501 n502 g503
    have fr507 := S497.free n500
    have S508 := S497.new n500 e505 h506 fr507
    have h509 := (e505 _ _ h496)
    refine ⟨G, _, _, _, _, v493, _, _, _, _, _, rfl, S508.sG, (S508.gno (all_cons (.head _) all_nil)), h506, ((hideL_out (ni1 (ne_of_none h496 n500))).trans h509), cW_call hw (fun v510 hw H511 x512 h513 => ⟨rfl, ?_⟩) (fun e he H2 e2 => hE e he H2 (Same.trans S497.b0 (same_mut e505 e2 n500)))⟩
    have S514 : Sep _ _ _ _ H511 [x498, x482] := Sep.init S508 x512 (.head _) h513 [] all_nil
    refine ⟨_, rfl, (by show 3 ≤ sizeLine; decide), fun p515 n516 => ?_⟩
    generalize g517 : upd H511 p515 _ = H518
    obtain ⟨e519, h520⟩ := gen_new n516 g517
    have h521 : H518 p515 = some (.lst (([("I" : Str), ("P" : Str), ("B" : Str)] : (List Str)).map V.str)) := h520
    have fr522 := S514.free n516
    have S523 := S514.new n516 e519 h521 fr522
    obtain ⟨g524, hw⟩ := cW_grd hw
    refine ⟨_, rfl, _, _, _, _, rfl, rfl, (SqL.of h521), (atI_map g524), (by show 2 ≤ sizeLine; decide), fun p525 n526 => ?_⟩
    generalize g527 : upd H518 p525 _ = H528
    obtain ⟨e529, h530⟩ := gen_new n526 g527
    have h531 : H528 p525 = some (.lst (([1, 0] : (List Int)).map V.int)) := h530
    have fr532 := S523.free n526
    have S533 := S523.new n526 e529 h531 fr532
    refine ⟨_, rfl, _, rfl, _, _, rfl, (SqL.of h531), fun p534 n535 => ?_⟩
    generalize g536 : upd H528 p534 _ = H537
    obtain ⟨e538, h539⟩ := gen_new n535 g536
    have h540 : H537 p534 = some (.lst ((cutL ([1, 0]) none (some (refs')) : (List Int)).map V.int)) := cut_map h539
    have fr541 := S533.free n535
    have S542 := S533.new n535 e538 h540 fr541
    refine ⟨_, rfl, rfl, rfl, fun x543 dx544 n545 n546 n547 => ?_⟩
    generalize g548 : upd (upd H537 dx544 _) x543 _ = H549
    obtain ⟨e550, h551⟩ := gen_obj n545 n546 n547 g548
    have fr552 := S542.free n545
    have S553 := S542.new n545 e550 h551 fr552
    have h554 := (e550 _ _ (e538 _ _ (e529 _ _ (e519 _ _ h513))))
    have h555 := (e550 _ _ (e538 _ _ (e529 _ _ (e519 _ _ ((SameXs.of x512) _ _ h509 (ni1 (ne_of_none h496 n500)))))))
    have h556 := (e550 _ _ h540)
    refine ⟨G, _, _, _, _, _, _, (⟨v493, v510.slots, v510.rows, v510.deblock, v510.offset, v510.layers⟩ : St_Settings), _, _, _, _, _, _, _, _, _, _, _, rfl, S553.sG, (S553.gno (all_cons (.head _) all_nil)), h551, ((hideL_out (ni1 (ne_of_none (e538 _ _ (e529 _ _ (e519 _ _ h513))) n545))).trans h554), ((hideL_out (ni1 (ne_of_none (e538 _ _ (e529 _ _ (e519 _ _ ((SameXs.of x512) _ _ h509 (ni1 (ne_of_none h496 n500)))))) n545))).trans h555), ⟨_, rfl, .inr (.inr T.td_PictureHeader___init___store)⟩, ⟨_, rfl, .inl ((hideL_out (ni1 (ne_of_none h540 n545))).trans h556)⟩, cW_call hw (fun v557 hw H560 l558 l559 x561 n566 n567 ne568 h562 h564 h565 => ⟨rfl, ?_⟩) (fun e he H2 e2 => hE e he H2 (Same.trans S542.b0 (same_mut e550 e2 n545)))⟩
    have fr569 := S553.free n566
    have fr570 := S553.free n567
    have S563 : Sep _ _ _ _ H560 [l558, l559, x543, p534, p525, p515, x498, x482] := Sep.init S553 x561 (.head _) h562 [l558, l559] (all_cons ⟨n566, some_ne h564, fr569⟩ (all_cons ⟨n567, some_ne h565, fr570⟩ all_nil))
    have hw := cW_ok hw
    exact hK0 _ hw _ _ _ _ _ S563.b0 fr552 fr569 fr570 ne568 h562 h564 h565

abbrev N__law_cell : List Str := ["script", "k"]
theorem sc__law_cell : FnScope N__law_cell ["script", "k"] (defScope s__law_cell) := ⟨rfl, rfl, rfl, by decide +kernel, rfl, by decide +kernel, by decide +kernel⟩
theorem ok__law_cell (D : DefX K mg "_law_cell" s__law_cell ["script", "k"] pats__law_cell) (T : Txt w K mg AD)  : CalX P w K mg base 1 "_law_cell" (sp__law_cell K AD) pats__law_cell := by
  refine D.ok sc__law_cell (fun vs H Q E h => ?_) (fun f cdv A_ outer s H vs Q E hr h => ?_)
  · obtain ⟨G, a_script, script', k', rfl, _⟩ := h
    rfl
  · obtain ⟨G, a_script, script', k', rfl, sG, q_script, hw⟩ := h
    refine ⟨_, (pss_cons (ps_if (pt_cmp (pc_lt (pv 1) (pe_callB (call_lenLiK (K := K)) (by rfl) T.b_len (by decide +kernel) (pa_cons (pv 0) pa_nil)))) (pss_one (ps_ret (pe_callTy call_int1 (by rfl) T.b_int (by decide +kernel) (pa_cons (pe_ix (ix_listK (K := K)) (pv 0) (pv 1) (fun _ _ => rfl)) pa_nil)))) pss_nil)
      (pss_one (ps_ret pe_int))), ?_⟩
    obtain ⟨KK, EE, hK0, hE, hw⟩ := cW_gen hw
    have S0 := Sep.startG sG
    unfold F__law_cell at hw
    refine ⟨_, rfl, _, rfl, _, _, rfl, (S0.b0.seq q_script), _, _, rfl, rfl, _, rfl, ?_⟩
    refine iteD (fun c571 => ?_) (fun c571 => ?_)
    · have hw := cW_pos c571 hw
      obtain ⟨g572, hw⟩ := cW_grd hw
      refine ⟨_, rfl, _, rfl, _, _, _, _, rfl, rfl, (S0.b0.seq q_script), (atI_map g572), .inl ⟨_, rfl, ?_⟩⟩
      have hw := cW_ok hw
      exact hK0 _ hw
    · have hw := cW_neg c571 hw
      have hw := cW_ok hw
      exact hK0 _ hw

abbrev N__law_coded : List Str := ["n", "plane", "width", "height"]
theorem sc__law_coded : FnScope N__law_coded ["n", "plane"] (defScope s__law_coded) := ⟨rfl, rfl, rfl, by decide +kernel, rfl, by decide +kernel, by decide +kernel⟩
theorem ok__law_coded (D : DefX K mg "_law_coded" s__law_coded ["n", "plane"] pats__law_coded) (T : Txt w K mg AD)  : CalX P w K mg base 1 "_law_coded" (sp__law_coded K AD) pats__law_coded := by
  refine D.ok sc__law_coded (fun vs H Q E h => ?_) (fun f cdv A_ outer s H vs Q E hr h => ?_)
  · obtain ⟨G, a_n, n', plane', rfl, _⟩ := h
    rfl
  · obtain ⟨G, a_n, n', plane', rfl, sG, q_n, hw⟩ := h
    refine ⟨_, (pss_cons (ps_set (i := 2) sc__law_coded.nd rfl (Or.inl rfl) (pe_op op_mul (pe_op op_fdivW (pe_op op_add (pe_ix (ix_listK (K := K)) (pv 0) pe_int (fun _ _ => rfl)) pe_int) pe_int) pe_int))
      (pss_cons (ps_set (i := 3) sc__law_coded.nd rfl (Or.inl rfl) (pe_op op_mul (pe_op op_fdivW (pe_op op_add (pe_ix (ix_listK (K := K)) (pv 0) pe_int (fun _ _ => rfl)) pe_int) pe_int) pe_int))
      (pss_cons (ps_if (PW.pt (pw_and (pt_cmp (pc_gt (pv 1) pe_int)) (pw_and1 (pt_cmp (pc_eqI (pe_ix (ix_listK (K := K)) (pv 0) pe_int (fun _ _ => rfl)) pe_int))))) (pss_one (ps_ret (pe_tup (pa_cons (pe_op op_fdivW (pv 2) pe_int) (pa_cons (pe_op op_fdivW (pv 3) pe_int) pa_nil))))) pss_nil)
      (pss_one (ps_ret (pe_tup (pa_cons (pv 2) (pa_cons (pv 3) pa_nil)))))))), ?_⟩
    obtain ⟨KK, EE, hK0, hE, hw⟩ := cW_gen hw
    have S0 := Sep.startG sG
    unfold F__law_coded at hw
    obtain ⟨g573, hw⟩ := cW_grd hw
    refine ⟨_, rfl, _, _, _, _, rfl, rfl, (SqL.of (S0.bM _ _ q_n)), (atI_map g573), _, _, rfl, rfl, _, _, rfl, rfl, (divW_lit (by decide) (by decide)), _, _, rfl, rfl, (.inr ⟨by decide, by decide⟩), ?_⟩
    have hw := cW_bnd hw
    obtain ⟨g575, hw⟩ := cW_grd hw
    refine ⟨_, rfl, _, _, _, _, rfl, rfl, (SqL.of (S0.bM _ _ q_n)), (atI_map g575), _, _, rfl, rfl, _, _, rfl, rfl, (divW_lit (by decide) (by decide)), _, _, rfl, rfl, (.inr ⟨by decide, by decide⟩), ?_⟩
    have hw := cW_bnd hw
    refine ⟨_, rfl, _, _, rfl, rfl, _, rfl, ?_⟩
    refine iteD (fun c577 => ?_) (fun c577 => ?_)
    · have hw := cW_pos c577 hw
      obtain ⟨g578, hw⟩ := cW_grd hw
      refine ⟨_, rfl, _, _, _, _, rfl, rfl, (SqL.of (S0.bM _ _ q_n)), (atI_map g578), _, _, rfl, rfl, _, rfl, ?_⟩
      refine iteD (fun c579 => ?_) (fun c579 => ?_)
      · have hw := cW_pos c579 hw
        refine ⟨_, rfl, _, _, rfl, rfl, (divW_lit (by decide) (by decide)), _, rfl, _, _, rfl, rfl, (divW_lit (by decide) (by decide)), (by show 2 ≤ sizeLine; decide), fun p580 n581 => ?_⟩
        generalize g582 : upd H p580 _ = H583
        obtain ⟨e584, h585⟩ := gen_new n581 g582
        have h586 : H583 p580 = some (.tup [V.int ((((((itD (n') (0)) + 7) / 8) * 8) / 2)), V.int ((((((itD (n') (1)) + 7) / 8) * 8) / 2))]) := h585
        have fr587 := S0.free n581
        obtain ⟨G589, eG590, hg591, S588⟩ := S0.grow n581 e584 h586 fr587
        have hw := cW_ok hw
        exact hK0 _ hw _ _ _ S588.b0 S588.g0 S588.sG S588.gn (rp_mk2 hg591 (.int _) (.int _))
      · have hw := cW_neg c579 hw
        refine ⟨_, rfl, _, rfl, (by show 2 ≤ sizeLine; decide), fun p592 n593 => ?_⟩
        generalize g594 : upd H p592 _ = H595
        obtain ⟨e596, h597⟩ := gen_new n593 g594
        have h598 : H595 p592 = some (.tup [V.int (((((itD (n') (0)) + 7) / 8) * 8)), V.int (((((itD (n') (1)) + 7) / 8) * 8))]) := h597
        have fr599 := S0.free n593
        obtain ⟨G601, eG602, hg603, S600⟩ := S0.grow n593 e596 h598 fr599
        have hw := cW_ok hw
        exact hK0 _ hw _ _ _ S600.b0 S600.g0 S600.sG S600.gn (rp_mk2 hg603 (.int _) (.int _))
    · have hw := cW_neg c577 hw
      refine iteF ?_
      refine ⟨_, rfl, _, rfl, (by show 2 ≤ sizeLine; decide), fun p604 n605 => ?_⟩
      generalize g606 : upd H p604 _ = H607
      obtain ⟨e608, h609⟩ := gen_new n605 g606
      have h610 : H607 p604 = some (.tup [V.int (((((itD (n') (0)) + 7) / 8) * 8)), V.int (((((itD (n') (1)) + 7) / 8) * 8))]) := h609
      have fr611 := S0.free n605
      obtain ⟨G613, eG614, hg615, S612⟩ := S0.grow n605 e608 h610 fr611
      have hw := cW_ok hw
      exact hK0 _ hw _ _ _ S612.b0 S612.g0 S612.sG S612.gn (rp_mk2 hg615 (.int _) (.int _))

abbrev N__law_plane : List Str := ["cell", "width", "height", "top", "kind", "values", "k", "value", "y"]
theorem sc__law_plane : FnScope N__law_plane ["cell", "width", "height", "top"] (defScope s__law_plane) := ⟨rfl, rfl, rfl, by decide +kernel, rfl, by decide +kernel, by decide +kernel⟩
theorem ok__law_plane (D : DefX K mg "_law_plane" s__law_plane ["cell", "width", "height", "top"] pats__law_plane) (T : Txt w K mg AD) (c__law_draws : CalX P w K mg base 1 "_law_draws" (sp__law_draws K AD) pats__law_draws) : CalX P w K mg base 2 "_law_plane" (sp__law_plane K AD) pats__law_plane := by
  refine D.ok sc__law_plane (fun vs H Q E h => ?_) (fun f cdv A_ outer s H vs Q E hr h => ?_)
  · obtain ⟨G, cell', width', height', top', rfl, _⟩ := h
    rfl
  · obtain ⟨G, cell', width', height', top', rfl, sG, hw⟩ := h
    refine ⟨_, (pss_cons (ps_set (i := 4) sc__law_plane.nd rfl (Or.inl rfl) (pe_op op_mod (pe_callTy call_int1 (by rfl) T.b_int (by decide +kernel) (pa_cons (pv 0) pa_nil)) pe_int))
      (pss_cons (ps_set (i := 5) sc__law_plane.nd rfl (Or.inr rfl) (vx_callX c__law_draws pat__law_draws_0 (.head _) hr (by decide) (takes_of rfl rfl rfl rfl) rfl (pa_cons (pe_op op_fdivW (pe_callTy call_int1 (by rfl) T.b_int (by decide +kernel) (pa_cons (pv 0) pa_nil)) pe_int) (pa_cons (pe_op op_rep (pe_lst (pa_cons (pe_op op_add (pv 3) pe_int) pa_nil)) (pe_op op_mul (pv 1) (pv 2))) pa_nil)) pk_nil))
      (C8.pss_cut (ps_if (pt_cmp (pc_eqI (pv 4) pe_int)) (pss_one (ps_set (i := 5) sc__law_plane.nd rfl (Or.inr rfl) (pe_op op_rep (pe_lst (pa_cons (pe_ix (ix_listK (K := K)) (pv 5) pe_int (fun _ _ => rfl)) pa_nil)) (pe_op op_mul (pv 1) (pv 2))))) pss_nil)
      (C8.pss_cut (ps_if (pt_cmp (pc_eqI (pv 4) pe_int)) (pss_one (ps_set (i := 5) sc__law_plane.nd rfl (Or.inr rfl) (pe_lc (own := [("k", 6)]) (g := gName 6) (by rfl) sc__law_plane.nd (pi_range1 rfl T.b_range (pa_cons (pe_op op_mul (pv 1) (pv 2)) pa_nil)) (blkOk_by (own := [("k", 6)]) (N := N__law_plane) (sc := defScope s__law_plane) (by decide +kernel)) (fun _ _ _ _ _ => (pg_name (i := 6) sc__law_plane.nd rfl (Or.inl rfl))) (fun _ _ _ _ _ => pts_nil) (fun _ _ _ _ _ => (pe_op op_mod (pe_callTy call_int1 (by rfl) T.b_int (by decide +kernel) (pa_cons (pe_op op_add (pe_ix (ix_listK (K := K)) (pv 5) pe_int (fun _ _ => rfl)) (pe_op op_mul pe_int (pv 6))) pa_nil)) (pe_op op_add (pv 3) pe_int)))))) pss_nil)
      (C8.pss_cut (ps_if (pt_cmp (pc_eqI (pv 4) pe_int)) (pss_one (ps_set (i := 5) sc__law_plane.nd rfl (Or.inr rfl) (pe_lc (own := [("value", 7)]) (g := gName 7) (by rfl) sc__law_plane.nd (pi_listK (K := K) (pv 5)) (blkOk_by (own := [("value", 7)]) (N := N__law_plane) (sc := defScope s__law_plane) (by decide +kernel)) (fun _ _ _ _ _ => (pg_name (i := 7) sc__law_plane.nd rfl (Or.inl rfl))) (fun _ _ _ _ _ => pts_nil) (fun _ _ _ _ _ => (pe_op op_mul (pv 3) (pe_callTy call_int1 (by rfl) T.b_int (by decide +kernel) (pa_cons (pe_op op_mod (pe_callTy call_int1 (by rfl) T.b_int (by decide +kernel) (pa_cons (pv 7) pa_nil)) pe_int) pa_nil))))))) pss_nil)
      (pss_one (ps_ret (pe_lc (own := [("y", 8)]) (g := gName 8) (by rfl) sc__law_plane.nd (pi_range1 rfl T.b_range (pa_cons (pv 2) pa_nil)) (blkOk_by (own := [("y", 8)]) (N := N__law_plane) (sc := defScope s__law_plane) (by decide +kernel)) (fun _ _ _ _ _ => (pg_name (i := 8) sc__law_plane.nd rfl (Or.inl rfl))) (fun _ _ _ _ _ => pts_nil) (fun _ _ _ _ _ => (pe_slice (sl_listK (K := K)) (pv 5) (po_some (pe_op op_mul (pv 8) (pv 1))) (po_some (pe_op op_mul (pe_op op_add (pv 8) pe_int) (pv 1))))))))))))), ?_⟩
    obtain ⟨KK, EE, hK0, hE, hw⟩ := cW_gen hw
    have S0 := Sep.startG sG
    unfold F__law_plane at hw
    refine ⟨_, rfl, .inl ⟨_, rfl, ?_⟩⟩
    refine ⟨_, _, rfl, rfl, (show (0 : Int) < 4 by decide), ?_⟩
    have hw := cW_bnd hw
    refine ⟨_, rfl, .inl ⟨_, rfl, ?_⟩⟩
    refine ⟨_, _, rfl, rfl, (divW_lit (by decide) (by decide)), _, rfl, _, _, rfl, rfl, (by show 1 ≤ sizeLine; decide), fun p617 n618 => ?_⟩
    generalize g619 : upd H p617 _ = H620
    obtain ⟨e621, h622⟩ := gen_new n618 g619
    have h623 : H620 p617 = some (.lst (([(top' + 1)] : (List Int)).map V.int)) := h622
    have fr624 := S0.free n618
    have S625 := S0.new n618 e621 h623 fr624
    obtain ⟨g626, hw⟩ := cW_grd hw
    obtain ⟨g627, hw⟩ := cW_grd hw
    refine ⟨_, rfl, _, rfl, _, _, rfl, rfl, g626, _, _, _, rfl, rfl, h623, g627.1, g627.2.1, (rep_lenM g627.2.2), fun p628 n629 => ?_⟩
    generalize g630 : upd H620 p628 _ = H631
    obtain ⟨e632, h633⟩ := gen_new n629 g630
    have h634 : H631 p628 = some (.lst ((repL ([(top' + 1)]) ((width' * height')) : (List Int)).map V.int)) := rep_map h633
    have fr635 := S625.free n629
    have S636 := S625.new n629 e632 h634 fr635
    refine ⟨rfl, rfl, G, _, _, _, rfl, S636.sG, (hide_nil h634), cW_call hw (fun v637 hw p640 H638 n641 e639 h642 => ?_) (fun e he H2 e2 => hE e he H2 (Same.trans S636.b0 e2))⟩
    have h643 : H638 p640 = some (.lst ((v637 : (List Int)).map V.int)) := h642
    have fr644 := S636.free n641
    have S645 := S636.new n641 e639 h643 fr644
    refine ⟨fun σ H' => ∃ (p652 : Addr) (values_651 : (List Int)) (G' : Hp), σ = [some (V.int (cell')), some (V.int (width')), some (V.int (height')), some (V.int (top')), some (V.int ((cell' % 4))), some (V.ref p652), none, none, none] ∧ Same G G' ∧ Sep [] H G G' H' [p652] ∧ H' p652 = some (.lst ((values_651 : (List Int)).map V.int)) ∧ H p652 = none ∧ cW (F__law_plane_k1 (width') (height') (top') ((cell' % 4)) values_651) KK EE, ?_, ?_⟩
    · obtain ⟨K653, hK654, hw⟩ := cW_push hw
      refine ⟨_, rfl, _, _, rfl, rfl, _, rfl, ?_⟩
      refine iteD (fun c655 => ?_) (fun c655 => ?_)
      · have hw := cW_pos c655 hw
        obtain ⟨g656, hw⟩ := cW_grd hw
        refine ⟨_, rfl, _, _, _, _, rfl, rfl, (SqL.of h643), (atI_map g656), (by show 1 ≤ sizeLine; decide), fun p657 n658 => ?_⟩
        generalize g659 : upd H638 p657 _ = H660
        obtain ⟨e661, h662⟩ := gen_new n658 g659
        have h663 : H660 p657 = some (.lst (([(itD (v637) (0))] : (List Int)).map V.int)) := h662
        have fr664 := S645.free n658
        have S665 := S645.new n658 e661 h663 fr664
        obtain ⟨g666, hw⟩ := cW_grd hw
        obtain ⟨g667, hw⟩ := cW_grd hw
        refine ⟨_, rfl, _, rfl, _, _, rfl, rfl, g666, _, _, _, rfl, rfl, h663, g667.1, g667.2.1, (rep_lenM g667.2.2), fun p668 n669 => ?_⟩
        generalize g670 : upd H660 p668 _ = H671
        obtain ⟨e672, h673⟩ := gen_new n669 g670
        have h674 : H671 p668 = some (.lst ((repL ([(itD (v637) (0))]) ((width' * height')) : (List Int)).map V.int)) := rep_map h673
        have fr675 := S665.free n669
        have S676 := S665.new n669 e672 h674 fr675
        have hw := cW_ok hw
        have hw := hK654 _ hw
        exact ⟨_, (repL ([(itD (v637) (0))]) ((width' * height'))), _, rfl, (Same.refl _), (S676.sub (all_cons (.head _) all_nil)), h674, fr675, hw⟩
      · have hw := cW_neg c655 hw
        have hw := cW_ok hw
        have hw := hK654 _ hw
        exact ⟨_, (v637), _, rfl, (Same.refl _), (S645.sub (all_cons (.head _) all_nil)), h643, fr644, hw⟩
    · intro σ H677 hw
      obtain ⟨p652, values_651, G681, rfl, eG682, S678, h679, fr680, hw⟩ := hw
      unfold F__law_plane_k1 at hw
      refine ⟨fun σ H' => ∃ (p689 : Addr) (values_688 : (List Int)) (G' : Hp), σ = [some (V.int (cell')), some (V.int (width')), some (V.int (height')), some (V.int (top')), some (V.int ((cell' % 4))), some (V.ref p689), none, none, none] ∧ Same G681 G' ∧ Sep [] H G G' H' [p689] ∧ H' p689 = some (.lst ((values_688 : (List Int)).map V.int)) ∧ H p689 = none ∧ cW (F__law_plane_k2 (width') (height') (top') ((cell' % 4)) values_688) KK EE, ?_, ?_⟩
      · obtain ⟨K690, hK691, hw⟩ := cW_push hw
        refine ⟨_, rfl, _, _, rfl, rfl, _, rfl, ?_⟩
        refine iteD (fun c692 => ?_) (fun c692 => ?_)
        · have hw := cW_pos c692 hw
          obtain ⟨g693, hw⟩ := cW_grd hw
          obtain ⟨g694, hw⟩ := cW_grd hw
          obtain ⟨K698, hK699, hw⟩ := cW_push hw
          refine ⟨_, rfl, _, rfl, _, _, rfl, rfl, g693, _, rfl, g694.1, g694.2, fun D700 n701 => lc_range (lo := 0) (n := Int.toNat ((width' * height'))) (fun i H' => ∃ (G' : Hp) (acc703 : (List Int)), Same G681 G' ∧ Sep [] H G G' H' [D700, p652] ∧ H' p652 = some (.lst ((values_651 : (List Int)).map V.int)) ∧ H' D700 = some (.lst ((acc703 : (List Int)).map V.int)) ∧ Same H677 H' ∧ cW (mapA (List.drop i (rng (0) (Int.toNat ((width' * height'))))) acc703 (fun x => noEr (F__law_plane_c3 (top') (values_651) x))) K698 EE) ?_ ?_ ?_⟩
          · generalize g705 : upd H677 D700 _ = H706
            obtain ⟨e707, h708⟩ := gen_new n701 g705
            have fr709 := S678.free n701
            have S710 := S678.new n701 e707 h708 fr709
            have h711 := (e707 _ _ h679)
            exact ⟨_, [], Same.refl _, S710, h711, h708, e707, hw⟩
          · intro i H712 hi hw
            obtain ⟨G715, acc717, eG716, S713, h724, h714, eo723, hw⟩ := hw
            obtain ⟨z725, hw⟩ := cW_mapA (rng_get hi) hw
            generalize (0 + (i : Int)) = x726 at hw ⊢
            have hw := cW_noEr hw
            have hw : cW (F__law_plane_c3 (top') (values_651) (x726)) _ (fun _ => False) := hw
            unfold F__law_plane_c3 at hw
            refine ⟨rfl, ?_⟩
            refine tyes_go ?_
            obtain ⟨g728, hw⟩ := cW_grd hw
            refine ⟨_, rfl, _, _, _, _, rfl, rfl, (SqL.of h724), (atI_map g728), _, rfl, _, _, rfl, rfl, (.inl ⟨by decide, by decide⟩), _, _, rfl, rfl, .inl ⟨_, rfl, ?_⟩⟩
            obtain ⟨g729, hw⟩ := cW_grd hw
            refine ⟨_, rfl, _, _, rfl, rfl, _, _, rfl, rfl, g729, _, h714, (app_lenM z725), ?_⟩
            generalize g730 : upd H712 D700 _ = H731
            obtain ⟨x732, h733⟩ := gen_mut g730
            have S734 := S713.mut1 x732 (.head _) h733
            have hw := cW_ok hw
            have h735 := (x732 _ _ h724 (ne_of_none h679 n701))
            exact ⟨_, (acc717 ++ [(((itD (values_651) (0)) + (7 * x726)) % (top' + 1))]), eG716, S734, h735, (snoc_map h733), (same_mut eo723 x732 n701), hw⟩
          intro H736 hw
          obtain ⟨G739, acc741, eG740, S737, h748, h738, eo747, hw⟩ := hw
          have hw := hK699 _ (cW_mapA0 (rng_len _ _).symm hw)
          have fr749 := S678.free n701
          have hw := cW_ok hw
          have hw := hK691 _ hw
          exact ⟨_, (acc741), _, rfl, eG740, (S737.sub (all_cons (.head _) all_nil)), h738, fr749, hw⟩
        · have hw := cW_neg c692 hw
          have hw := cW_ok hw
          have hw := hK691 _ hw
          exact ⟨_, (values_651), _, rfl, (Same.refl _), S678, h679, fr680, hw⟩
      · intro σ H750 hw
        obtain ⟨p689, values_688, G754, rfl, eG755, S751, h752, fr753, hw⟩ := hw
        unfold F__law_plane_k2 at hw
        refine ⟨fun σ H' => ∃ (p760 : Addr) (values_759 : (List Int)) (G' : Hp), σ = [some (V.int (cell')), some (V.int (width')), some (V.int (height')), some (V.int (top')), some (V.int ((cell' % 4))), some (V.ref p760), none, none, none] ∧ Same G754 G' ∧ Sep [] H G G' H' [p760] ∧ H' p760 = some (.lst ((values_759 : (List Int)).map V.int)) ∧ H p760 = none ∧ cW (F__law_plane_k4 (width') (height') values_759) KK EE, ?_, ?_⟩
        · obtain ⟨K761, hK762, hw⟩ := cW_push hw
          refine ⟨_, rfl, _, _, rfl, rfl, _, rfl, ?_⟩
          refine iteD (fun c763 => ?_) (fun c763 => ?_)
          · have hw := cW_pos c763 hw
            obtain ⟨K766, hK767, hw⟩ := cW_push hw
            refine ⟨_, rfl, _, rfl, ⟨_, (SqL.of h752)⟩, fun D768 n769 => lc_list (K := K) (a := p689) (xs := (values_688 : (List Int)).map V.int) (fun i H' => ∃ (G' : Hp) (acc771 : (List Int)), Same G754 G' ∧ Sep [] H G G' H' [D768, p689] ∧ H' p689 = some (.lst ((values_688 : (List Int)).map V.int)) ∧ H' D768 = some (.lst ((acc771 : (List Int)).map V.int)) ∧ Same H750 H' ∧ cW (mapA (List.drop i (values_688)) acc771 (fun x => noEr (F__law_plane_c5 (top') x))) K766 EE) ?_ ?_ ?_ ?_⟩
            · generalize g773 : upd H750 D768 _ = H774
              obtain ⟨e775, h776⟩ := gen_new n769 g773
              have fr777 := S751.free n769
              have S778 := S751.new n769 e775 h776 fr777
              have h779 := (e775 _ _ h752)
              exact ⟨_, [], Same.refl _, S778, h779, h776, e775, hw⟩
            · intro i H780 _ hw
              obtain ⟨G783, acc785, eG784, S781, h792, h782, eo791, hw⟩ := hw
              exact (SqL.of h792)
            · intro i x H793 hj hw
              obtain ⟨G796, acc798, eG797, S794, h805, h795, eo804, hw⟩ := hw
              obtain ⟨x806, hx, rfl⟩ := map_get hj
              obtain ⟨z807, hw⟩ := cW_mapA hx hw
              have hw := cW_noEr hw
              have hw : cW (F__law_plane_c5 (top') (x806)) _ (fun _ => False) := hw
              unfold F__law_plane_c5 at hw
              refine ⟨rfl, ?_⟩
              refine tyes_go ?_
              refine ⟨_, rfl, _, rfl, .inl ⟨_, rfl, ?_⟩⟩
              refine ⟨_, _, rfl, rfl, (show (0 : Int) < 2 by decide), .inl ⟨_, rfl, ?_⟩⟩
              obtain ⟨g809, hw⟩ := cW_grd hw
              refine ⟨_, _, rfl, rfl, g809, _, h795, (app_lenM z807), ?_⟩
              generalize g810 : upd H793 D768 _ = H811
              obtain ⟨x812, h813⟩ := gen_mut g810
              have S814 := S794.mut1 x812 (.head _) h813
              have hw := cW_ok hw
              have h815 := (x812 _ _ h805 (ne_of_none h752 n769))
              exact ⟨_, (acc798 ++ [(top' * (x806 % 2))]), eG797, S814, h815, (snoc_map h813), (same_mut eo804 x812 n769), hw⟩
            intro H816 hw
            obtain ⟨G819, acc821, eG820, S817, h828, h818, eo827, hw⟩ := hw
            have hw := hK767 _ (cW_mapA0 (by rw [List.length_map]) hw)
            have fr829 := S751.free n769
            have hw := cW_ok hw
            have hw := hK762 _ hw
            exact ⟨_, (acc821), _, rfl, eG820, (S817.sub (all_cons (.head _) all_nil)), h818, fr829, hw⟩
          · have hw := cW_neg c763 hw
            have hw := cW_ok hw
            have hw := hK762 _ hw
            exact ⟨_, (values_688), _, rfl, (Same.refl _), S751, h752, fr753, hw⟩
        · intro σ H830 hw
          obtain ⟨p760, values_759, G834, rfl, eG835, S831, h832, fr833, hw⟩ := hw
          unfold F__law_plane_k4 at hw
          obtain ⟨g836, hw⟩ := cW_grd hw
          obtain ⟨K840, hK841, hw⟩ := cW_push hw
          refine ⟨_, rfl, _, rfl, g836.1, g836.2, fun D842 n843 => lc_range (lo := 0) (n := Int.toNat (height')) (fun i H' => ∃ (G' : Hp) (acc845 : (List (List Int))) (vs846 : List V), Same G834 G' ∧ Sep [] H G G' H' [D842, p760] ∧ H' p760 = some (.lst ((values_759 : (List Int)).map V.int)) ∧ H' D842 = some (.lst vs846) ∧ RpAll G' vs846 ((acc845 : (List (List Int))).map (encL PyData.int)) ∧ Same H830 H' ∧ cW (mapA (List.drop i (rng (0) (Int.toNat (height')))) acc845 (fun x => noEr (F__law_plane_c6 (width') (values_759) x))) K840 EE) ?_ ?_ ?_⟩
          · generalize g847 : upd H830 D842 _ = H848
            obtain ⟨e849, h850⟩ := gen_new n843 g847
            have fr851 := S831.free n843
            have S852 := S831.new n843 e849 h850 fr851
            have h853 := (e849 _ _ h832)
            exact ⟨_, [], [], Same.refl _, S852, h853, h850, RpAll.nil, e849, hw⟩
          · intro i H854 hi hw
            obtain ⟨G857, acc859, vs860, eG858, S855, h866, h856, d861, eo865, hw⟩ := hw
            obtain ⟨z867, hw⟩ := cW_mapA (rng_get hi) hw
            generalize (0 + (i : Int)) = x868 at hw ⊢
            have hw := cW_noEr hw
            have hw : cW (F__law_plane_c6 (width') (values_759) (x868)) _ (fun _ => False) := hw
            unfold F__law_plane_c6 at hw
            refine ⟨rfl, ?_⟩
            refine tyes_go ?_
            obtain ⟨g870, hw⟩ := cW_grd hw
            obtain ⟨g871, hw⟩ := cW_grd hw
            refine ⟨_, rfl, _, rfl, _, rfl, _, _, rfl, rfl, g870, _, rfl, _, rfl, _, _, rfl, rfl, _, rfl, _, _, rfl, rfl, g871, _, rfl, _, _, rfl, (SqL.of h866), fun p872 n873 => ?_⟩
            generalize g874 : upd H854 p872 _ = H875
            obtain ⟨e876, h877⟩ := gen_new n873 g874
            have h878 : H875 p872 = some (.lst ((cutL (values_759) (some ((x868 * width'))) (some (((x868 + 1) * width'))) : (List Int)).map V.int)) := cut_map h877
            have fr879 := S855.free n873
            have S880 := S855.new n873 e876 h878 fr879
            obtain ⟨G881, eG882, hg883, S884⟩ := Sep.freeze (O' := [D842, p760]) S880 (.head _) h878 fr879 ((all_cons ⟨(.tail _ (.head _)), (ne_of_none h856 n873)⟩ (all_cons ⟨(.tail _ (.tail _ (.head _))), (ne_of_none h866 n873)⟩ all_nil)))
            have h885 := (e876 _ _ h856)
            refine ⟨_, h885, (app_len (RpAll.mono eG882 d861) z867), ?_⟩
            generalize g886 : upd H875 D842 _ = H887
            obtain ⟨x888, h889⟩ := gen_mut g886
            have S890 := S884.mut1 x888 (.head _) h889
            have hw := cW_ok hw
            have h891 := (x888 _ _ (e876 _ _ h866) (ne_of_none h832 n843))
            exact ⟨_, (acc859 ++ [cutL (values_759) (some ((x868 * width'))) (some (((x868 + 1) * width')))]), _, (Same.trans eG858 eG882), S890, h891, h889, (app_map (RpAll.mono eG882 d861) (RpAll.one (rp_mk_ints hg883))), (same_mut (Same.trans eo865 e876) x888 n843), hw⟩
          intro H892 hw
          obtain ⟨G895, acc897, vs898, eG896, S893, h904, h894, d899, eo903, hw⟩ := hw
          have hw := hK841 _ (cW_mapA0 (rng_len _ _).symm hw)
          have fr905 := S831.free n843
          obtain ⟨G906, eG907, hg908, S909⟩ := Sep.freeze (O' := [p760]) S893 (.head _) h894 fr905 ((all_cons ⟨(.tail _ (.head _)), (ne_of_none h832 n843)⟩ all_nil))
          have hw := cW_ok hw
          exact hK0 _ hw _ _ _ S909.b0 S909.g0 S909.sG S909.gn (rp_mk_list hg908 (RpAll.mono eG907 d899))

abbrev N__law_reference : List Str := ["cell", "n", "top", "sizes", "plane", "k"]
theorem sc__law_reference : FnScope N__law_reference ["cell", "n"] (defScope s__law_reference) := ⟨rfl, rfl, rfl, by decide +kernel, rfl, by decide +kernel, by decide +kernel⟩
theorem ok__law_reference (D : DefX K mg "_law_reference" s__law_reference ["cell", "n"] pats__law_reference) (T : Txt w K mg AD) (c__law_coded : CalX P w K mg base 1 "_law_coded" (sp__law_coded K AD) pats__law_coded) (c__law_plane : CalX P w K mg base 2 "_law_plane" (sp__law_plane K AD) pats__law_plane) : CalX P w K mg base 3 "_law_reference" (sp__law_reference K AD) pats__law_reference := by
  refine D.ok sc__law_reference (fun vs H Q E h => ?_) (fun f cdv A_ outer s H vs Q E hr h => ?_)
  · obtain ⟨G, cell', a_n, n', rfl, _⟩ := h
    rfl
  · obtain ⟨G, cell', a_n, n', rfl, sG, q_n, hw⟩ := h
    refine ⟨_, (pss_cons (ps_set (i := 2) sc__law_reference.nd rfl (Or.inr rfl) (pe_op op_sub (pe_op op_shlW pe_int (pe_ix (ix_listK (K := K)) (pv 1) pe_int (fun _ _ => rfl))) pe_int))
      (pss_cons (ps_set (i := 3) sc__law_reference.nd rfl (Or.inr rfl) (pe_lc (own := [("plane", 4)]) (g := gName 4) (by rfl) sc__law_reference.nd (pi_range1 rfl T.b_range (pa_cons (pe_op op_add pe_int (pe_op op_mul pe_int (pe_callTy call_int1 (by rfl) T.b_int (by decide +kernel) (pa_cons (pe_cmp (pc_gt (pe_ix (ix_listK (K := K)) (pv 1) pe_int (fun _ _ => rfl)) pe_int)) pa_nil)))) pa_nil)) (blkOk_by (own := [("plane", 4)]) (N := N__law_reference) (sc := defScope s__law_reference) (by decide +kernel)) (fun _ _ _ _ _ => (pg_name (i := 4) sc__law_reference.nd rfl (Or.inl rfl))) (fun _ _ _ _ _ => pts_nil) (fun _ _ _ _ _ => (vx_callX c__law_coded pat__law_coded_0 (.head _) hr (by decide) takes0 rfl (pa_cons (pv 1) (pa_cons (pv 4) pa_nil)) pk_nil))))
      (pss_one (ps_ret (pe_lc (own := [("k", 5)]) (g := gName 5) (by rfl) sc__law_reference.nd (pi_range1 rfl T.b_range (pa_cons (pe_callB (call_lenLK (K := K)) (by rfl) T.b_len (by decide +kernel) (pa_cons (pv 3) pa_nil)) pa_nil)) (blkOk_by (own := [("k", 5)]) (N := N__law_reference) (sc := defScope s__law_reference) (by decide +kernel)) (fun _ _ _ _ _ => (pg_name (i := 5) sc__law_reference.nd rfl (Or.inl rfl))) (fun _ _ _ _ _ => pts_nil) (fun _ _ _ _ _ => (vx_callX c__law_plane pat__law_plane_0 (.head _) hr (by decide) takes0 rfl (pa_cons (pe_op op_fdivW (pe_callTy call_int1 (by rfl) T.b_int (by decide +kernel) (pa_cons (pv 0) pa_nil)) (pe_op op_add pe_int (pv 5))) (pa_cons (pe_ix (ix_tupK (K := K)) (pe_ix (ix_listK (K := K)) (pv 3) (pv 5) (fun _ _ => rfl)) pe_int (fun _ _ => rfl)) (pa_cons (pe_ix (ix_tupK (K := K)) (pe_ix (ix_listK (K := K)) (pv 3) (pv 5) (fun _ _ => rfl)) pe_int (fun _ _ => rfl)) (pa_cons (pv 2) pa_nil)))) pk_nil))))))), ?_⟩
    obtain ⟨KK, EE, hK0, hE, hw⟩ := cW_gen hw
    have S0 := Sep.startG sG
    unfold F__law_reference at hw
    obtain ⟨g910, hw⟩ := cW_grd hw
    obtain ⟨g911, hw⟩ := cW_grd hw
    refine ⟨_, rfl, _, _, _, _, rfl, rfl, (SqL.of (S0.bM _ _ q_n)), (atI_map g910), _, _, rfl, rfl, (shl_side g911.1 g911.2.1 g911.2.2.1 g911.2.2.2), _, _, rfl, rfl, ?_⟩
    have hw := cW_bnd hw
    obtain ⟨g913, hw⟩ := cW_grd hw
    refine ⟨_, rfl, _, _, _, _, rfl, rfl, (SqL.of (S0.bM _ _ q_n)), (atI_map g913), _, _, rfl, rfl, .inr ⟨_, rfl, ?_⟩⟩
    obtain ⟨g914, hw⟩ := cW_grd hw
    obtain ⟨K917, hK918, hw⟩ := cW_push hw
    refine ⟨_, _, rfl, rfl, (.inl ⟨by decide, by decide⟩), _, _, rfl, rfl, _, rfl, g914.1, g914.2, fun D919 n920 => lc_range (lo := 0) (n := Int.toNat ((1 + (2 * (if decide (0 < (itD (n') (3))) = true then 1 else 0))))) (fun i H' => ∃ (G' : Hp) (acc922 : (List (Int × Int))) (vs923 : List V), Same G G' ∧ Sep [] H G G' H' [D919] ∧ H' D919 = some (.lst vs923) ∧ RpAll G' vs923 ((acc922 : (List (Int × Int))).map (encT2 PyData.int PyData.int)) ∧ Same H H' ∧ cW (mapA (List.drop i (rng (0) (Int.toNat ((1 + (2 * (if decide (0 < (itD (n') (3))) = true then 1 else 0))))))) acc922 (fun x => noEr (F__law_reference_c1 (n') x))) K917 EE) ?_ ?_ ?_⟩
    · generalize g924 : upd H D919 _ = H925
      obtain ⟨e926, h927⟩ := gen_new n920 g924
      have fr928 := S0.free n920
      have S929 := S0.new n920 e926 h927 fr928
      exact ⟨_, [], [], Same.refl _, S929, h927, RpAll.nil, e926, hw⟩
    · intro i H930 hi hw
      obtain ⟨G933, acc935, vs936, eG934, S931, h932, d937, eo941, hw⟩ := hw
      obtain ⟨z942, hw⟩ := cW_mapA (rng_get hi) hw
      generalize (0 + (i : Int)) = x943 at hw ⊢
      have hw := cW_noEr hw
      have hw : cW (F__law_reference_c1 (n') (x943)) _ (fun _ => False) := hw
      unfold F__law_reference_c1 at hw
      refine ⟨rfl, ?_⟩
      refine tyes_go ?_
      refine ⟨_, rfl, _, rfl, rfl, rfl, G933, _, _, _, rfl, S931.sG, (hide_nil (S931.bM _ _ q_n)), cW_call hw (fun v945 hw v948 H946 G949 e947 eG950 sG951 hn952 r953 => ?_) (fun e he => he.elim)⟩
      have S954 := S931.step e947 eG950 sG951 hn952
      obtain ⟨a955, v957, v958, rfl, h956, r959, r960⟩ := rp_tup2 r953
      obtain rfl := rp_int r959
      obtain rfl := rp_int r960
      have h961 := (e947 _ _ h932)
      refine ⟨_, h961, (app_len (RpAll.mono eG950 d937) z942), ?_⟩
      generalize g962 : upd H946 D919 _ = H963
      obtain ⟨x964, h965⟩ := gen_mut g962
      have S966 := S954.mut1 x964 (.head _) h965
      have hw := cW_ok hw
      exact ⟨_, (acc935 ++ [v945]), _, (Same.trans eG934 eG950), S966, h965, (app_map (RpAll.mono eG950 d937) (RpAll.one (rp_mk2 h956 (.int _) (.int _)))), (same_mut (Same.trans eo941 e947) x964 n920), hw⟩
    intro H967 hw
    obtain ⟨G970, acc972, vs973, eG971, S968, h969, d974, eo978, hw⟩ := hw
    have hw := hK918 _ (cW_mapA0 (rng_len _ _).symm hw)
    have fr979 := S0.free n920
    obtain ⟨g980, hw⟩ := cW_grd hw
    obtain ⟨K985, hK986, hw⟩ := cW_push hw
    refine ⟨_, rfl, _, _, _, rfl, (SqL.of h969), (by rw [d974.len, List.length_map]), _, rfl, g980.1, g980.2, fun D987 n988 => lc_range (lo := 0) (n := Int.toNat ((((acc972) : (List (Int × Int))).length : Int))) (fun i H' => ∃ (G' : Hp) (acc990 : (List (List (List Int)))) (vs991 : List V), Same G970 G' ∧ Sep [] H G G' H' [D987, D919] ∧ H' D919 = some (.lst (vs973)) ∧ H' D987 = some (.lst vs991) ∧ RpAll G' vs991 ((acc990 : (List (List (List Int)))).map (encL (encL PyData.int))) ∧ Same H967 H' ∧ cW (mapA (List.drop i (rng (0) (Int.toNat ((((acc972) : (List (Int × Int))).length : Int))))) acc990 (fun x => noEr (F__law_reference_c2 (cell') (((1 * 2 ^ Int.toNat ((itD (n') (2)))) - 1)) (acc972) x))) K985 EE) ?_ ?_ ?_⟩
    · generalize g992 : upd H967 D987 _ = H993
      obtain ⟨e994, h995⟩ := gen_new n988 g992
      have fr996 := S968.free n988
      have S997 := S968.new n988 e994 h995 fr996
      have h998 := (e994 _ _ h969)
      exact ⟨_, [], [], Same.refl _, S997, h998, h995, RpAll.nil, e994, hw⟩
    · intro i H999 hi hw
      obtain ⟨G1002, acc1004, vs1005, eG1003, S1000, h1011, h1001, d1006, eo1010, hw⟩ := hw
      obtain ⟨z1012, hw⟩ := cW_mapA (rng_get hi) hw
      generalize (0 + (i : Int)) = x1013 at hw ⊢
      have hw := cW_noEr hw
      have hw : cW (F__law_reference_c2 (cell') (((1 * 2 ^ Int.toNat ((itD (n') (2)))) - 1)) (acc972) (x1013)) _ (fun _ => False) := hw
      unfold F__law_reference_c2 at hw
      refine ⟨rfl, ?_⟩
      refine tyes_go ?_
      refine ⟨_, rfl, .inl ⟨_, rfl, ?_⟩⟩
      obtain ⟨g1015, hw⟩ := cW_grd hw
      obtain ⟨g1016, hw⟩ := cW_grd hw
      obtain ⟨v1017, a1018, r1019⟩ := RpAll.ixD (k := x1013) (RpAll.mono eG1003 d974) g1016
      obtain ⟨a1020, v1022, v1023, rfl, h1021, r1024, r1025⟩ := rp_tup2 r1019
      obtain rfl := rp_int r1024
      obtain rfl := rp_int r1025
      obtain ⟨g1026, hw⟩ := cW_grd hw
      obtain ⟨v1027, a1028, r1029⟩ := RpAll.ixD (k := x1013) (RpAll.mono eG1003 d974) g1026
      obtain ⟨a1030, v1032, v1033, rfl, h1031, r1034, r1035⟩ := rp_tup2 r1029
      obtain rfl := rp_int r1034
      obtain rfl := rp_int r1035
      refine ⟨_, rfl, _, _, rfl, rfl, _, _, rfl, rfl, (divW_small g1015.1 g1015.2), _, rfl, _, rfl, _, _, _, _, rfl, rfl, (SqL.of h1011), a1018, _, _, _, _, rfl, rfl, (SqT.of (S1000.sG _ _ h1021)), rfl, _, rfl, _, rfl, _, _, _, _, rfl, rfl, (SqL.of h1011), a1028, _, _, _, _, rfl, rfl, (SqT.of (S1000.sG _ _ h1031)), rfl, _, rfl, rfl, rfl, G1002, _, _, _, _, rfl, S1000.sG, cW_call hw (fun v1036 hw v1039 H1037 G1040 e1038 eG1041 sG1042 hn1043 r1044 => ?_) (fun e he => he.elim)⟩
      have S1045 := S1000.step e1038 eG1041 sG1042 hn1043
      obtain ⟨a1046, vs1047, rfl, h1048, d1049⟩ := rp_list r1044
      have h1050 := (e1038 _ _ h1001)
      refine ⟨_, h1050, (app_len (RpAll.mono eG1041 d1006) z1012), ?_⟩
      generalize g1051 : upd H1037 D987 _ = H1052
      obtain ⟨x1053, h1054⟩ := gen_mut g1051
      have S1055 := S1045.mut1 x1053 (.head _) h1054
      have hw := cW_ok hw
      have h1056 := (x1053 _ _ (e1038 _ _ h1011) (ne_of_none h969 n988))
      exact ⟨_, (acc1004 ++ [v1036]), _, (Same.trans eG1003 eG1041), S1055, h1056, h1054, (app_map (RpAll.mono eG1041 d1006) (RpAll.one (rp_mk_list h1048 d1049))), (same_mut (Same.trans eo1010 e1038) x1053 n988), hw⟩
    intro H1057 hw
    obtain ⟨G1060, acc1062, vs1063, eG1061, S1058, h1069, h1059, d1064, eo1068, hw⟩ := hw
    have hw := hK986 _ (cW_mapA0 (rng_len _ _).symm hw)
    have fr1070 := S968.free n988
    obtain ⟨G1071, eG1072, hg1073, S1074⟩ := Sep.freeze (O' := [D919]) S1058 (.head _) h1059 fr1070 ((all_cons ⟨(.tail _ (.head _)), (ne_of_none h969 n988)⟩ all_nil))
    have hw := cW_ok hw
    exact hK0 _ hw _ _ _ S1074.b0 S1074.g0 S1074.sG S1074.gn (rp_mk_list hg1073 (RpAll.mono eG1072 d1064))

abbrev N__law_copy : List Str := ["planes", "plane", "row"]
theorem sc__law_copy : FnScope N__law_copy ["planes"] (defScope s__law_copy) := ⟨rfl, rfl, rfl, by decide +kernel, rfl, by decide +kernel, by decide +kernel⟩
theorem ok__law_copy (D : DefX K mg "_law_copy" s__law_copy ["planes"] pats__law_copy) (T : Txt w K mg AD)  : CalX P w K mg base 1 "_law_copy" (sp__law_copy K AD) pats__law_copy := by
  refine D.ok sc__law_copy (fun vs H Q E h => ?_) (fun f cdv A_ outer s H vs Q E hr h => ?_)
  · obtain ⟨G, v_planes, planes', rfl, _⟩ := h
    rfl
  · obtain ⟨G, v_planes, planes', rfl, sG, r_planes, hw⟩ := h
    refine ⟨_, (pss_one (ps_ret (pe_lc (own := [("plane", 1)]) (g := gName 1) (by rfl) sc__law_copy.nd (pi_listK (K := K) (pv 0)) (blkOk_by (own := [("plane", 1)]) (N := N__law_copy) (sc := defScope s__law_copy) (by decide +kernel)) (fun _ _ _ _ _ => (pg_name (i := 1) sc__law_copy.nd rfl (Or.inl rfl))) (fun _ _ _ _ _ => pts_nil) (fun _ _ _ _ _ => (pe_lc (own := [("row", 2)]) (g := gName 2) (by rfl) sc__law_copy.nd (pi_listK (K := K) (pv 1)) (blk_relabel (blkOk_by (own := [("row", 2)]) (N := N__law_copy) (by decide +kernel))) (fun _ _ _ _ _ => (pg_name (i := 2) sc__law_copy.nd rfl (Or.inl rfl))) (fun _ _ _ _ _ => pts_nil) (fun _ _ _ _ _ => (pe_callTy (call_listLK (K := K)) (by rfl) T.b_list (by decide +kernel) (pa_cons (pv 2) pa_nil)))))))), ?_⟩
    obtain ⟨KK, EE, hK0, hE, hw⟩ := cW_gen hw
    have S0 := Sep.startG sG
    unfold F__law_copy at hw
    obtain ⟨a1075, vs1076, rfl, h1077, d1078⟩ := rp_list r_planes
    obtain ⟨K1080, hK1081, hw⟩ := cW_push hw
    refine ⟨_, rfl, _, rfl, ⟨_, (SqL.of (S0.bM _ _ h1077))⟩, fun D1082 n1083 => lc_list (K := K) (a := a1075) (xs := vs1076) (fun i H' => ∃ (G' : Hp) (acc1085 : (List (List (List Int)))) (vs1086 : List V), Same G G' ∧ Sep [] H G G' H' [D1082] ∧ H' D1082 = some (.lst vs1086) ∧ RpAll G' vs1086 ((acc1085 : (List (List (List Int)))).map (encL (encL PyData.int))) ∧ Same H H' ∧ cW (mapA (List.drop i (planes')) acc1085 (fun x => noEr (F__law_copy_c1  x))) K1080 EE) ?_ ?_ ?_ ?_⟩
    · generalize g1087 : upd H D1082 _ = H1088
      obtain ⟨e1089, h1090⟩ := gen_new n1083 g1087
      have fr1091 := S0.free n1083
      have S1092 := S0.new n1083 e1089 h1090 fr1091
      exact ⟨_, [], [], Same.refl _, S1092, h1090, RpAll.nil, e1089, hw⟩
    · intro i H1093 _ hw
      obtain ⟨G1096, acc1098, vs1099, eG1097, S1094, h1095, d1100, eo1104, hw⟩ := hw
      exact (SqL.of (S1094.bM _ _ h1077))
    · intro i x H1105 hj hw
      obtain ⟨G1108, acc1110, vs1111, eG1109, S1106, h1107, d1112, eo1116, hw⟩ := hw
      obtain ⟨x1117, hx, r1118⟩ := RpAll.get d1078 hj
      obtain ⟨a1119, vs1120, rfl, h1121, d1122⟩ := rp_list r1118
      obtain ⟨z1123, hw⟩ := cW_mapA hx hw
      have hw := cW_noEr hw
      have hw : cW (F__law_copy_c1  (x1117)) _ (fun _ => False) := hw
      unfold F__law_copy_c1 at hw
      refine ⟨rfl, ?_⟩
      refine tyes_go ?_
      obtain ⟨K1126, hK1127, hw⟩ := cW_push hw
      refine ⟨_, rfl, _, rfl, ⟨_, (SqL.of (S1106.bM _ _ h1121))⟩, fun D1128 n1129 => lc_list (K := K) (a := a1119) (xs := vs1120) (fun i2 H' => ∃ (G' : Hp) (acc1131 : (List (List Int))) (vs1132 : List V), Same G1108 G' ∧ Sep [] H G G' H' [D1128, D1082] ∧ H' D1082 = some (.lst (vs1111)) ∧ H' D1128 = some (.lst vs1132) ∧ RpAll G' vs1132 ((acc1131 : (List (List Int))).map (encL PyData.int)) ∧ Same H1105 H' ∧ cW (mapA (List.drop i2 (x1117)) acc1131 (fun x => noEr (F__law_copy_c2  x))) K1126 (fun _ => False)) ?_ ?_ ?_ ?_⟩
      · generalize g1133 : upd H1105 D1128 _ = H1134
        obtain ⟨e1135, h1136⟩ := gen_new n1129 g1133
        have fr1137 := S1106.free n1129
        have S1138 := S1106.new n1129 e1135 h1136 fr1137
        have h1139 := (e1135 _ _ h1107)
        exact ⟨_, [], [], Same.refl _, S1138, h1139, h1136, RpAll.nil, e1135, hw⟩
      · intro i2 H1140 _ hw
        obtain ⟨G1143, acc1145, vs1146, eG1144, S1141, h1152, h1142, d1147, eo1151, hw⟩ := hw
        exact (SqL.of (S1141.bM _ _ h1121))
      · intro i2 x H1153 hj hw
        obtain ⟨G1156, acc1158, vs1159, eG1157, S1154, h1165, h1155, d1160, eo1164, hw⟩ := hw
        obtain ⟨x1166, hx, r1167⟩ := RpAll.get d1122 hj
        obtain ⟨a1168, rfl, h1169⟩ := rp_ints r1167
        obtain ⟨z1170, hw⟩ := cW_mapA hx hw
        have hw := cW_noEr hw
        have hw : cW (F__law_copy_c2  (x1166)) _ (fun _ => False) := hw
        unfold F__law_copy_c2 at hw
        refine ⟨rfl, ?_⟩
        refine tyes_go ?_
        refine ⟨_, rfl, _, _, rfl, (SqL.of (S1154.bM _ _ h1169)), fun p1172 n1173 => ?_⟩
        generalize g1174 : upd H1153 p1172 _ = H1175
        obtain ⟨e1176, h1177⟩ := gen_new n1173 g1174
        have h1178 : H1175 p1172 = some (.lst ((x1166 : (List Int)).map V.int)) := h1177
        have fr1179 := S1154.free n1173
        have S1180 := S1154.new n1173 e1176 h1178 fr1179
        obtain ⟨G1181, eG1182, hg1183, S1184⟩ := Sep.freeze (O' := [D1128, D1082]) S1180 (.head _) h1178 fr1179 ((all_cons ⟨(.tail _ (.head _)), (ne_of_none h1155 n1173)⟩ (all_cons ⟨(.tail _ (.tail _ (.head _))), (ne_of_none h1165 n1173)⟩ all_nil)))
        have h1185 := (e1176 _ _ h1155)
        refine ⟨_, h1185, (app_len (RpAll.mono eG1182 d1160) z1170), ?_⟩
        generalize g1186 : upd H1175 D1128 _ = H1187
        obtain ⟨x1188, h1189⟩ := gen_mut g1186
        have S1190 := S1184.mut1 x1188 (.head _) h1189
        have hw := cW_ok hw
        have h1191 := (x1188 _ _ (e1176 _ _ h1165) (ne_of_none h1107 n1129))
        exact ⟨_, (acc1158 ++ [x1166]), _, (Same.trans eG1157 eG1182), S1190, h1191, h1189, (app_map (RpAll.mono eG1182 d1160) (RpAll.one (rp_mk_ints hg1183))), (same_mut (Same.trans eo1164 e1176) x1188 n1129), hw⟩
      intro H1192 hw
      obtain ⟨G1195, acc1197, vs1198, eG1196, S1193, h1204, h1194, d1199, eo1203, hw⟩ := hw
      have hw := hK1127 _ (cW_mapA0 (by rw [d1122.len, List.length_map]) hw)
      have fr1205 := S1106.free n1129
      obtain ⟨G1206, eG1207, hg1208, S1209⟩ := Sep.freeze (O' := [D1082]) S1193 (.head _) h1194 fr1205 ((all_cons ⟨(.tail _ (.head _)), (ne_of_none h1107 n1129)⟩ all_nil))
      refine ⟨_, h1204, (app_len (RpAll.mono eG1207 (RpAll.mono eG1196 d1112)) z1123), ?_⟩
      generalize g1210 : upd H1192 D1082 _ = H1211
      obtain ⟨x1212, h1213⟩ := gen_mut g1210
      have S1214 := S1209.mut1 x1212 (.head _) h1213
      have hw := cW_ok hw
      exact ⟨_, (acc1110 ++ [acc1197]), _, (Same.trans (Same.trans eG1109 eG1196) eG1207), S1214, h1213, (app_map (RpAll.mono eG1207 (RpAll.mono eG1196 d1112)) (RpAll.one (rp_mk_list hg1208 (RpAll.mono eG1207 d1199)))), (same_mut (Same.trans eo1116 eo1203) x1212 n1083), hw⟩
    intro H1215 hw
    obtain ⟨G1218, acc1220, vs1221, eG1219, S1216, h1217, d1222, eo1226, hw⟩ := hw
    have hw := hK1081 _ (cW_mapA0 (by rw [d1078.len, List.length_map]) hw)
    have fr1227 := S0.free n1083
    obtain ⟨G1228, eG1229, hg1230, S1231⟩ := Sep.freeze (O' := []) S1216 (.head _) h1217 fr1227 (all_nil)
    have hw := cW_ok hw
    exact hK0 _ hw _ _ _ S1231.b0 S1231.g0 S1231.sG S1231.gn (rp_mk_list hg1230 (RpAll.mono eG1229 d1222))

abbrev N__law_component : List Str := ["first", "second"]
theorem sc__law_component : FnScope N__law_component ["first", "second"] (defScope s__law_component) := ⟨rfl, rfl, rfl, by decide +kernel, rfl, by decide +kernel, by decide +kernel⟩
theorem ok__law_component (D : DefX K mg "_law_component" s__law_component ["first", "second"] pats__law_component) (T : Txt w K mg AD)  : CalX P w K mg base 1 "_law_component" (sp__law_component K AD) pats__law_component := by
  refine D.ok sc__law_component (fun vs H Q E h => ?_) (fun f cdv A_ outer s H vs Q E hr h => ?_)
  · obtain ⟨G, first', second', rfl, _⟩ := h
    rfl
  · obtain ⟨G, first', second', rfl, sG, hw⟩ := h
    refine ⟨_, (pss_one (ps_ret (pe_ix (ix_listK (K := K)) (pe_lst (pa_cons pe_int (pa_cons pe_int (pa_cons (pe_un un_neg pe_int) (pa_cons pe_int (pa_cons (pe_op op_sub (pe_op op_mod (pe_callTy call_int1 (by rfl) T.b_int (by decide +kernel) (pa_cons (pv 1) pa_nil)) pe_int) pe_int) (pa_cons (pe_op op_sub (pe_op op_mod (pe_callTy call_int1 (by rfl) T.b_int (by decide +kernel) (pa_cons (pv 1) pa_nil)) pe_int) pe_int) (pa_cons (pe_op op_sub (pe_op op_mod (pe_callTy call_int1 (by rfl) T.b_int (by decide +kernel) (pa_cons (pv 1) pa_nil)) pe_int) pe_int) pa_nil)))))))) (pv 0) (fun _ _ => rfl)))), ?_⟩
    obtain ⟨KK, EE, hK0, hE, hw⟩ := cW_gen hw
    have S0 := Sep.startG sG
    unfold F__law_component at hw
    refine ⟨_, rfl, _, rfl, .inl ⟨_, rfl, ?_⟩⟩
    refine ⟨_, _, rfl, rfl, (show (0 : Int) < 9 by decide), _, _, rfl, rfl, _, rfl, .inl ⟨_, rfl, ?_⟩⟩
    refine ⟨_, _, rfl, rfl, (show (0 : Int) < 65 by decide), _, _, rfl, rfl, _, rfl, .inl ⟨_, rfl, ?_⟩⟩
    refine ⟨_, _, rfl, rfl, (show (0 : Int) < 2047 by decide), _, _, rfl, rfl, (by show 7 ≤ sizeLine; decide), fun p1232 n1233 => ?_⟩
    generalize g1234 : upd H p1232 _ = H1235
    obtain ⟨e1236, h1237⟩ := gen_new n1233 g1234
    have h1238 : H1235 p1232 = some (.lst (([0, 1023, (-1023), 4, ((second' % 9) - 4), ((second' % 65) - 32), ((second' % 2047) - 1023)] : (List Int)).map V.int)) := h1237
    have fr1239 := S0.free n1233
    have S1240 := S0.new n1233 e1236 h1238 fr1239
    obtain ⟨g1241, hw⟩ := cW_grd hw
    refine ⟨_, rfl, _, _, _, _, rfl, rfl, (SqL.of h1238), (atI_map g1241), ?_⟩
    have hw := cW_ok hw
    exact hK0 _ hw _ S1240.b0

abbrev N__law_motion : List Str := ["cell", "kind", "refs", "draws", "first", "second"]
theorem sc__law_motion : FnScope N__law_motion ["cell", "kind", "refs"] (defScope s__law_motion) := ⟨rfl, rfl, rfl, by decide +kernel, rfl, by decide +kernel, by decide +kernel⟩
theorem ok__law_motion (D : DefX K mg "_law_motion" s__law_motion ["cell", "kind", "refs"] pats__law_motion) (T : Txt w K mg AD) (c__law_draws : CalX P w K mg base 1 "_law_draws" (sp__law_draws K AD) pats__law_draws) (c__law_component : CalX P w K mg base 1 "_law_component" (sp__law_component K AD) pats__law_component) : CalX P w K mg base 2 "_law_motion" (sp__law_motion K AD) pats__law_motion := by
  refine D.ok sc__law_motion (fun vs H Q E h => ?_) (fun f cdv A_ outer s H vs Q E hr h => ?_)
  · obtain ⟨G, cell', kind', refs', rfl, _⟩ := h
    rfl
  · obtain ⟨G, cell', kind', refs', rfl, sG, hw⟩ := h
    refine ⟨_, (pss_cons (ps_set (i := 3) sc__law_motion.nd rfl (Or.inl rfl) (vx_callX c__law_draws pat__law_draws_0 (.head _) hr (by decide) (takes_of rfl rfl rfl rfl) rfl (pa_cons (pv 0) (pa_cons (pe_lst (pa_cons pe_int (pa_cons pe_int (pa_cons pe_int (pa_cons pe_int (pa_cons pe_int (pa_cons pe_int (pa_cons pe_int (pa_cons pe_int (pa_cons pe_int (pa_cons pe_int pa_nil))))))))))) pa_nil)) pk_nil))
      (pss_cons (ps_set (i := 4) sc__law_motion.nd rfl (Or.inl rfl) (pe_tup (pa_cons (vx_callX c__law_component pat__law_component_0 (.head _) hr (by decide) (takes_of rfl rfl rfl rfl) rfl (pa_cons (pe_ix (ix_listK (K := K)) (pv 3) pe_int (fun _ _ => rfl)) (pa_cons (pe_ix (ix_listK (K := K)) (pv 3) pe_int (fun _ _ => rfl)) pa_nil)) pk_nil) (pa_cons (vx_callX c__law_component pat__law_component_0 (.head _) hr (by decide) (takes_of rfl rfl rfl rfl) rfl (pa_cons (pe_ix (ix_listK (K := K)) (pv 3) pe_int (fun _ _ => rfl)) (pa_cons (pe_ix (ix_listK (K := K)) (pv 3) pe_int (fun _ _ => rfl)) pa_nil)) pk_nil) pa_nil))))
      (pss_cons (ps_set (i := 5) sc__law_motion.nd rfl (Or.inl rfl) (pe_tup (pa_cons (vx_callX c__law_component pat__law_component_0 (.head _) hr (by decide) (takes_of rfl rfl rfl rfl) rfl (pa_cons (pe_ix (ix_listK (K := K)) (pv 3) pe_int (fun _ _ => rfl)) (pa_cons (pe_ix (ix_listK (K := K)) (pv 3) pe_int (fun _ _ => rfl)) pa_nil)) pk_nil) (pa_cons (vx_callX c__law_component pat__law_component_0 (.head _) hr (by decide) (takes_of rfl rfl rfl rfl) rfl (pa_cons (pe_ix (ix_listK (K := K)) (pv 3) pe_int (fun _ _ => rfl)) (pa_cons (pe_ix (ix_listK (K := K)) (pv 3) pe_int (fun _ _ => rfl)) pa_nil)) pk_nil) pa_nil))))
      (pss_cons (ps_if (pt_cmp (pc_eqI (pv 1) pe_int)) (pss_one (ps_ret (pe_tup (pa_cons pe_int (pa_cons (pe_op op_mod (pe_callTy call_int1 (by rfl) T.b_int (by decide +kernel) (pa_cons (pe_ix (ix_listK (K := K)) (pv 3) pe_int (fun _ _ => rfl)) pa_nil)) (pv 2)) (pa_cons (pv 4) (pa_cons pe_non pa_nil))))))) pss_nil)
      (pss_cons (ps_if (pt_cmp (pc_eqI (pe_ix (ix_listK (K := K)) (pv 3) pe_int (fun _ _ => rfl)) pe_int)) (pss_one (ps_ret (pe_tup (pa_cons pe_int (pa_cons pe_int (pa_cons (pv 4) (pa_cons pe_non pa_nil))))))) pss_nil)
      (pss_cons (ps_if (pt_cmp (pc_eqI (pe_ix (ix_listK (K := K)) (pv 3) pe_int (fun _ _ => rfl)) pe_int)) (pss_one (ps_ret (pe_tup (pa_cons pe_int (pa_cons pe_int (pa_cons pe_non (pa_cons (pv 5) pa_nil))))))) pss_nil)
      (pss_one (ps_ret (pe_tup (pa_cons pe_int (pa_cons pe_int (pa_cons (pv 4) (pa_cons (pv 5) pa_nil))))))))))))), ?_⟩
    obtain ⟨KK, EE, hK0, hE, hw⟩ := cW_gen hw
    have S0 := Sep.startG sG
    unfold F__law_motion at hw
    refine ⟨_, rfl, (by show 10 ≤ sizeLine; decide), fun p1242 n1243 => ?_⟩
    generalize g1244 : upd H p1242 _ = H1245
    obtain ⟨e1246, h1247⟩ := gen_new n1243 g1244
    have h1248 : H1245 p1242 = some (.lst (([3, 2, 7, 2047, 7, 2047, 7, 2047, 7, 2047] : (List Int)).map V.int)) := h1247
    have fr1249 := S0.free n1243
    have S1250 := S0.new n1243 e1246 h1248 fr1249
    refine ⟨rfl, rfl, G, _, _, _, rfl, S1250.sG, (hide_nil h1248), cW_call hw (fun v1251 hw p1254 H1252 n1255 e1253 h1256 => ?_) (fun e he H2 e2 => hE e he H2 (Same.trans S1250.b0 e2))⟩
    have h1257 : H1252 p1254 = some (.lst ((v1251 : (List Int)).map V.int)) := h1256
    have fr1258 := S1250.free n1255
    have S1259 := S1250.new n1255 e1253 h1257 fr1258
    obtain ⟨g1260, hw⟩ := cW_grd hw
    obtain ⟨g1261, hw⟩ := cW_grd hw
    refine ⟨_, rfl, _, _, _, _, rfl, rfl, (SqL.of h1257), (atI_map g1260), _, rfl, _, _, _, _, rfl, rfl, (SqL.of h1257), (atI_map g1261), rfl, rfl, G, _, _, rfl, S1259.sG, cW_call hw (fun v1262 hw H1263 e1264 => ?_) (fun e he H2 e2 => hE e he H2 (Same.trans S1259.b0 e2))⟩
    have S1265 := S1259.same e1264
    obtain ⟨g1266, hw⟩ := cW_grd hw
    have h1267 := (e1264 _ _ h1257)
    obtain ⟨g1268, hw⟩ := cW_grd hw
    refine ⟨_, rfl, _, _, _, _, rfl, rfl, (SqL.of h1267), (atI_map g1266), _, rfl, _, _, _, _, rfl, rfl, (SqL.of h1267), (atI_map g1268), rfl, rfl, G, _, _, rfl, S1265.sG, cW_call hw (fun v1269 hw H1270 e1271 => ?_) (fun e he H2 e2 => hE e he H2 (Same.trans S1265.b0 e2))⟩
    have S1272 := S1265.same e1271
    refine ⟨(by show 2 ≤ sizeLine; decide), fun p1273 n1274 => ?_⟩
    generalize g1275 : upd H1270 p1273 _ = H1276
    obtain ⟨e1277, h1278⟩ := gen_new n1274 g1275
    have h1279 : H1276 p1273 = some (.tup [V.int (v1262), V.int (v1269)]) := h1278
    have fr1280 := S1272.free n1274
    obtain ⟨G1282, eG1283, hg1284, S1281⟩ := S1272.grow n1274 e1277 h1279 fr1280
    obtain ⟨g1285, hw⟩ := cW_grd hw
    have h1286 := (e1277 _ _ (e1271 _ _ h1267))
    obtain ⟨g1287, hw⟩ := cW_grd hw
    refine ⟨_, rfl, _, _, _, _, rfl, rfl, (SqL.of h1286), (atI_map g1285), _, rfl, _, _, _, _, rfl, rfl, (SqL.of h1286), (atI_map g1287), rfl, rfl, G1282, _, _, rfl, S1281.sG, cW_call hw (fun v1288 hw H1289 e1290 => ?_) (fun e he H2 e2 => hE e he H2 (Same.trans S1281.b0 e2))⟩
    have S1291 := S1281.same e1290
    obtain ⟨g1292, hw⟩ := cW_grd hw
    have h1293 := (e1290 _ _ h1286)
    obtain ⟨g1294, hw⟩ := cW_grd hw
    refine ⟨_, rfl, _, _, _, _, rfl, rfl, (SqL.of h1293), (atI_map g1292), _, rfl, _, _, _, _, rfl, rfl, (SqL.of h1293), (atI_map g1294), rfl, rfl, G1282, _, _, rfl, S1291.sG, cW_call hw (fun v1295 hw H1296 e1297 => ?_) (fun e he H2 e2 => hE e he H2 (Same.trans S1291.b0 e2))⟩
    have S1298 := S1291.same e1297
    refine ⟨(by show 2 ≤ sizeLine; decide), fun p1299 n1300 => ?_⟩
    generalize g1301 : upd H1296 p1299 _ = H1302
    obtain ⟨e1303, h1304⟩ := gen_new n1300 g1301
    have h1305 : H1302 p1299 = some (.tup [V.int (v1288), V.int (v1295)]) := h1304
    have fr1306 := S1298.free n1300
    obtain ⟨G1308, eG1309, hg1310, S1307⟩ := S1298.grow n1300 e1303 h1305 fr1306
    refine ⟨_, rfl, _, _, rfl, rfl, _, rfl, ?_⟩
    refine iteD (fun c1311 => ?_) (fun c1311 => ?_)
    · have hw := cW_pos c1311 hw
      obtain ⟨g1312, hw⟩ := cW_grd hw
      have h1313 := (e1303 _ _ (e1297 _ _ h1293))
      refine ⟨_, rfl, _, _, _, _, rfl, rfl, (SqL.of h1313), (atI_map g1312), .inl ⟨_, rfl, ?_⟩⟩
      obtain ⟨g1314, hw⟩ := cW_grd hw
      refine ⟨_, rfl, _, _, rfl, rfl, g1314, _, rfl, (by show 4 ≤ sizeLine; decide), fun p1315 n1316 => ?_⟩
      generalize g1317 : upd H1302 p1315 _ = H1318
      obtain ⟨e1319, h1320⟩ := gen_new n1316 g1317
      have h1321 : H1318 p1315 = some (.tup [V.int (0), V.int (((itD (v1251) (1)) % refs')), V.ref p1273, V.non]) := h1320
      have fr1322 := S1307.free n1316
      obtain ⟨G1324, eG1325, hg1326, S1323⟩ := S1307.grow n1316 e1319 h1321 fr1322
      have r1327 : Rp G1324 (V.ref p1273) (encD ((encT2 PyData.int PyData.int) ((v1262, v1269)))) := (rp_mk2 (eG1325 _ _ (eG1309 _ _ hg1284)) (.int _) (.int _))
      have r1328 : Rp G1324 (V.non) (encD (encN (()))) := .non
      have hw := cW_ok hw
      exact hK0 _ hw _ _ _ S1323.b0 S1323.g0 S1323.sG S1323.gn (rp_mk4 hg1326 (.int _) (.int _) r1327 r1328)
    · have hw := cW_neg c1311 hw
      obtain ⟨g1329, hw⟩ := cW_grd hw
      have h1330 := (e1303 _ _ (e1297 _ _ h1293))
      refine ⟨_, rfl, _, _, _, _, rfl, rfl, (SqL.of h1330), (atI_map g1329), _, _, rfl, rfl, _, rfl, ?_⟩
      refine iteD (fun c1331 => ?_) (fun c1331 => ?_)
      · have hw := cW_pos c1331 hw
        refine ⟨_, rfl, (by show 4 ≤ sizeLine; decide), fun p1332 n1333 => ?_⟩
        generalize g1334 : upd H1302 p1332 _ = H1335
        obtain ⟨e1336, h1337⟩ := gen_new n1333 g1334
        have h1338 : H1335 p1332 = some (.tup [V.int (0), V.int (0), V.ref p1273, V.non]) := h1337
        have fr1339 := S1307.free n1333
        obtain ⟨G1341, eG1342, hg1343, S1340⟩ := S1307.grow n1333 e1336 h1338 fr1339
        have r1344 : Rp G1341 (V.ref p1273) (encD ((encT2 PyData.int PyData.int) ((v1262, v1269)))) := (rp_mk2 (eG1342 _ _ (eG1309 _ _ hg1284)) (.int _) (.int _))
        have r1345 : Rp G1341 (V.non) (encD (encN (()))) := .non
        have hw := cW_ok hw
        exact hK0 _ hw _ _ _ S1340.b0 S1340.g0 S1340.sG S1340.gn (rp_mk4 hg1343 (.int _) (.int _) r1344 r1345)
      · have hw := cW_neg c1331 hw
        obtain ⟨g1346, hw⟩ := cW_grd hw
        refine ⟨_, rfl, _, _, _, _, rfl, rfl, (SqL.of h1330), (atI_map g1346), _, _, rfl, rfl, _, rfl, ?_⟩
        refine iteD (fun c1347 => ?_) (fun c1347 => ?_)
        · have hw := cW_pos c1347 hw
          refine ⟨_, rfl, (by show 4 ≤ sizeLine; decide), fun p1348 n1349 => ?_⟩
          generalize g1350 : upd H1302 p1348 _ = H1351
          obtain ⟨e1352, h1353⟩ := gen_new n1349 g1350
          have h1354 : H1351 p1348 = some (.tup [V.int (1), V.int (0), V.non, V.ref p1299]) := h1353
          have fr1355 := S1307.free n1349
          obtain ⟨G1357, eG1358, hg1359, S1356⟩ := S1307.grow n1349 e1352 h1354 fr1355
          have r1360 : Rp G1357 (V.non) (encD (encN (()))) := .non
          have r1361 : Rp G1357 (V.ref p1299) (encD ((encT2 PyData.int PyData.int) ((v1288, v1295)))) := (rp_mk2 (eG1358 _ _ hg1310) (.int _) (.int _))
          have hw := cW_ok hw
          exact hK0 _ hw _ _ _ S1356.b0 S1356.g0 S1356.sG S1356.gn (rp_mk4 hg1359 (.int _) (.int _) r1360 r1361)
        · have hw := cW_neg c1347 hw
          refine ⟨_, rfl, _, rfl, (by show 4 ≤ sizeLine; decide), fun p1362 n1363 => ?_⟩
          generalize g1364 : upd H1302 p1362 _ = H1365
          obtain ⟨e1366, h1367⟩ := gen_new n1363 g1364
          have h1368 : H1365 p1362 = some (.tup [V.int (2), V.int (0), V.ref p1273, V.ref p1299]) := h1367
          have fr1369 := S1307.free n1363
          obtain ⟨G1371, eG1372, hg1373, S1370⟩ := S1307.grow n1363 e1366 h1368 fr1369
          have r1374 : Rp G1371 (V.ref p1273) (encD ((encT2 PyData.int PyData.int) ((v1262, v1269)))) := (rp_mk2 (eG1372 _ _ (eG1309 _ _ hg1284)) (.int _) (.int _))
          have r1375 : Rp G1371 (V.ref p1299) (encD ((encT2 PyData.int PyData.int) ((v1288, v1295)))) := (rp_mk2 (eG1372 _ _ hg1310) (.int _) (.int _))
          have hw := cW_ok hw
          exact hK0 _ hw _ _ _ S1370.b0 S1370.g0 S1370.sG S1370.gn (rp_mk4 hg1373 (.int _) (.int _) r1374 r1375)

abbrev N__law_at : List Str := ["plane", "x", "y", "row"]
theorem sc__law_at : FnScope N__law_at ["plane", "x", "y"] (defScope s__law_at) := ⟨rfl, rfl, rfl, by decide +kernel, rfl, by decide +kernel, by decide +kernel⟩
theorem ok__law_at (D : DefX K mg "_law_at" s__law_at ["plane", "x", "y"] pats__law_at) (T : Txt w K mg AD)  : CalX P w K mg base 1 "_law_at" (sp__law_at K AD) pats__law_at := by
  refine D.ok sc__law_at (fun vs H Q E h => ?_) (fun f cdv A_ outer s H vs Q E hr h => ?_)
  · obtain ⟨G, v_plane, plane', x', y', rfl, _⟩ := h
    rfl
  · obtain ⟨G, v_plane, plane', x', y', rfl, sG, r_plane, hw⟩ := h
    refine ⟨_, (pss_cons (ps_set (i := 3) sc__law_at.nd rfl (Or.inl rfl) (pe_ix (ix_listK (K := K)) (pv 0) (pe_callB (call_min2 rfl) (by rfl) T.b_min (by decide +kernel) (pa_cons (pe_callB (call_max2 rfl) (by rfl) T.b_max (by decide +kernel) (pa_cons (pv 2) (pa_cons pe_int pa_nil))) (pa_cons (pe_op op_sub (pe_callB (call_lenLK (K := K)) (by rfl) T.b_len (by decide +kernel) (pa_cons (pv 0) pa_nil)) pe_int) pa_nil))) (fun _ _ => rfl)))
      (pss_one (ps_ret (pe_ix (ix_listK (K := K)) (pv 3) (pe_callB (call_min2 rfl) (by rfl) T.b_min (by decide +kernel) (pa_cons (pe_callB (call_max2 rfl) (by rfl) T.b_max (by decide +kernel) (pa_cons (pv 1) (pa_cons pe_int pa_nil))) (pa_cons (pe_op op_sub (pe_callB (call_lenLiK (K := K)) (by rfl) T.b_len (by decide +kernel) (pa_cons (pv 3) pa_nil)) pe_int) pa_nil))) (fun _ _ => rfl))))), ?_⟩
    obtain ⟨KK, EE, hK0, hE, hw⟩ := cW_gen hw
    have S0 := Sep.startG sG
    unfold F__law_at at hw
    obtain ⟨a1376, vs1377, rfl, h1378, d1379⟩ := rp_list r_plane
    obtain ⟨g1380, hw⟩ := cW_grd hw
    obtain ⟨v1381, a1382, r1383⟩ := RpAll.ixD (k := (if ((((plane') : (List (List Int))).length : Int) - 1) < (if 0 > y' then 0 else y') then ((((plane') : (List (List Int))).length : Int) - 1) else (if 0 > y' then 0 else y'))) d1379 g1380
    obtain ⟨a1384, rfl, h1385⟩ := rp_ints r1383
    obtain ⟨g1386, hw⟩ := cW_grd hw
    refine ⟨_, rfl, _, rfl, _, _, rfl, _, rfl, _, _, _, rfl, (SqL.of (S0.bM _ _ h1378)), (by rw [d1379.len, List.length_map]), _, _, rfl, rfl, _, _, rfl, _, _, _, _, rfl, rfl, (SqL.of (S0.bM _ _ h1378)), a1382, _, rfl, _, rfl, _, _, rfl, _, rfl, _, _, rfl, (SqL.of (S0.bM _ _ h1385)), _, _, rfl, rfl, _, _, rfl, _, _, _, _, rfl, rfl, (SqL.of (S0.bM _ _ h1385)), (atI_map g1386), ?_⟩
    have hw := cW_ok hw
    exact hK0 _ hw

abbrev N__law_eighth : List Str := ["plane", "x", "y", "f", "g", "i", "j", "upper", "lower"]
theorem sc__law_eighth : FnScope N__law_eighth ["plane", "x", "y"] (defScope s__law_eighth) := ⟨rfl, rfl, rfl, by decide +kernel, rfl, by decide +kernel, by decide +kernel⟩
theorem ok__law_eighth (D : DefX K mg "_law_eighth" s__law_eighth ["plane", "x", "y"] pats__law_eighth) (T : Txt w K mg AD) (c__law_at : CalX P w K mg base 1 "_law_at" (sp__law_at K AD) pats__law_at) : CalX P w K mg base 2 "_law_eighth" (sp__law_eighth K AD) pats__law_eighth := by
  refine D.ok sc__law_eighth (fun vs H Q E h => ?_) (fun f cdv A_ outer s H vs Q E hr h => ?_)
  · obtain ⟨G, v_plane, plane', x', y', rfl, _⟩ := h
    rfl
  · obtain ⟨G, v_plane, plane', x', y', rfl, sG, r_plane, hw⟩ := h
    refine ⟨_, (pss_cons (ps_set (i := 3) sc__law_eighth.nd rfl (Or.inl rfl) (pe_op op_and (pv 1) pe_int))
      (pss_cons (ps_set (i := 4) sc__law_eighth.nd rfl (Or.inl rfl) (pe_op op_and (pv 2) pe_int))
      (pss_cons (ps_set (i := 5) sc__law_eighth.nd rfl (Or.inl rfl) (pe_op op_shr (pv 1) pe_int))
      (pss_cons (ps_set (i := 6) sc__law_eighth.nd rfl (Or.inl rfl) (pe_op op_shr (pv 2) pe_int))
      (pss_cons (ps_set (i := 7) sc__law_eighth.nd rfl (Or.inl rfl) (pe_op op_add (pe_op op_mul (pe_op op_sub pe_int (pv 3)) (vx_callX c__law_at pat__law_at_0 (.head _) hr (by decide) (takes_of rfl rfl rfl rfl) rfl (pa_cons (pv 0) (pa_cons (pv 5) (pa_cons (pv 6) pa_nil))) pk_nil)) (pe_op op_mul (pv 3) (vx_callX c__law_at pat__law_at_0 (.head _) hr (by decide) (takes_of rfl rfl rfl rfl) rfl (pa_cons (pv 0) (pa_cons (pe_op op_add (pv 5) pe_int) (pa_cons (pv 6) pa_nil))) pk_nil))))
      (pss_cons (ps_set (i := 8) sc__law_eighth.nd rfl (Or.inl rfl) (pe_op op_add (pe_op op_mul (pe_op op_sub pe_int (pv 3)) (vx_callX c__law_at pat__law_at_0 (.head _) hr (by decide) (takes_of rfl rfl rfl rfl) rfl (pa_cons (pv 0) (pa_cons (pv 5) (pa_cons (pe_op op_add (pv 6) pe_int) pa_nil))) pk_nil)) (pe_op op_mul (pv 3) (vx_callX c__law_at pat__law_at_0 (.head _) hr (by decide) (takes_of rfl rfl rfl rfl) rfl (pa_cons (pv 0) (pa_cons (pe_op op_add (pv 5) pe_int) (pa_cons (pe_op op_add (pv 6) pe_int) pa_nil))) pk_nil))))
      (pss_one (ps_ret (pe_op op_shr (pe_op op_add (pe_op op_add (pe_op op_mul (pe_op op_sub pe_int (pv 4)) (pv 7)) (pe_op op_mul (pv 4) (pv 8))) pe_int) pe_int))))))))), ?_⟩
    obtain ⟨KK, EE, hK0, hE, hw⟩ := cW_gen hw
    have S0 := Sep.startG sG
    unfold F__law_eighth at hw
    obtain ⟨a1387, vs1388, rfl, h1389, d1390⟩ := rp_list r_plane
    refine ⟨_, rfl, _, _, rfl, rfl, ?_⟩
    have hw := cW_bnd hw
    refine ⟨_, rfl, _, _, rfl, rfl, ?_⟩
    have hw := cW_bnd hw
    refine ⟨_, rfl, _, _, rfl, rfl, (show (0 : Int) ≤ 3 by decide), ?_⟩
    have hw := cW_bnd hw
    refine ⟨_, rfl, _, _, rfl, rfl, (show (0 : Int) ≤ 3 by decide), ?_⟩
    have hw := cW_bnd hw
    refine ⟨_, rfl, _, _, rfl, rfl, _, rfl, _, rfl, _, rfl, rfl, rfl, G, _, _, _, _, rfl, S0.sG, (Rp.hide_nil (rp_mk_list (S0.bM _ _ h1389) (RpAll.mono S0.bM d1390))), cW_call hw (fun v1395 hw => ?_) (fun e he => hE e he)⟩
    obtain ⟨g1396, hw⟩ := cW_grd hw
    refine ⟨_, _, rfl, rfl, g1396, _, rfl, _, rfl, _, rfl, _, _, rfl, rfl, _, rfl, rfl, rfl, G, _, _, _, _, rfl, S0.sG, (Rp.hide_nil (rp_mk_list (S0.bM _ _ h1389) (RpAll.mono S0.bM d1390))), cW_call hw (fun v1397 hw => ?_) (fun e he => hE e he)⟩
    obtain ⟨g1398, hw⟩ := cW_grd hw
    refine ⟨_, _, rfl, rfl, g1398, _, _, rfl, rfl, ?_⟩
    have hw := cW_bnd hw
    refine ⟨_, rfl, _, _, rfl, rfl, _, rfl, _, rfl, _, rfl, _, _, rfl, rfl, rfl, rfl, G, _, _, _, _, rfl, S0.sG, (Rp.hide_nil (rp_mk_list (S0.bM _ _ h1389) (RpAll.mono S0.bM d1390))), cW_call hw (fun v1400 hw => ?_) (fun e he => hE e he)⟩
    obtain ⟨g1401, hw⟩ := cW_grd hw
    refine ⟨_, _, rfl, rfl, g1401, _, rfl, _, rfl, _, rfl, _, _, rfl, rfl, _, rfl, _, _, rfl, rfl, rfl, rfl, G, _, _, _, _, rfl, S0.sG, (Rp.hide_nil (rp_mk_list (S0.bM _ _ h1389) (RpAll.mono S0.bM d1390))), cW_call hw (fun v1402 hw => ?_) (fun e he => hE e he)⟩
    obtain ⟨g1403, hw⟩ := cW_grd hw
    refine ⟨_, _, rfl, rfl, g1403, _, _, rfl, rfl, ?_⟩
    have hw := cW_bnd hw
    obtain ⟨g1405, hw⟩ := cW_grd hw
    obtain ⟨g1406, hw⟩ := cW_grd hw
    refine ⟨_, rfl, _, _, rfl, rfl, _, rfl, _, _, rfl, rfl, g1405, _, rfl, _, rfl, _, _, rfl, rfl, g1406, _, _, rfl, rfl, _, _, rfl, rfl, _, _, rfl, rfl, (show (0 : Int) ≤ 6 by decide), ?_⟩
    have hw := cW_ok hw
    exact hK0 _ hw

abbrev N__law_quarter : List Str := ["plane", "x", "y", "top", "weights", "across", "down", "i", "j", "total", "t", "s"]
theorem sc__law_quarter : FnScope N__law_quarter ["plane", "x", "y", "top"] (defScope s__law_quarter) := ⟨rfl, rfl, rfl, by decide +kernel, rfl, by decide +kernel, by decide +kernel⟩
theorem ok__law_quarter (D : DefX K mg "_law_quarter" s__law_quarter ["plane", "x", "y", "top"] pats__law_quarter) (T : Txt w K mg AD) (c__law_at : CalX P w K mg base 1 "_law_at" (sp__law_at K AD) pats__law_at) : CalX P w K mg base 2 "_law_quarter" (sp__law_quarter K AD) pats__law_quarter := by
  refine D.ok sc__law_quarter (fun vs H Q E h => ?_) (fun f cdv A_ outer s H vs Q E hr h => ?_)
  · obtain ⟨G, v_plane, plane', x', y', top', rfl, _⟩ := h
    rfl
  · obtain ⟨G, v_plane, plane', x', y', top', rfl, sG, r_plane, hw⟩ := h
    refine ⟨_, (pss_cons (ps_set (i := 4) sc__law_quarter.nd rfl (Or.inl rfl) (pe_lst (pa_cons (pe_lst (pa_cons pe_int (pa_cons pe_int (pa_cons pe_int (pa_cons pe_int (pa_cons pe_int (pa_cons pe_int pa_nil))))))) (pa_cons (pe_lst (pa_cons pe_int (pa_cons (pe_un un_neg pe_int) (pa_cons pe_int (pa_cons pe_int (pa_cons (pe_un un_neg pe_int) (pa_cons pe_int pa_nil))))))) (pa_cons (pe_lst (pa_cons pe_int (pa_cons (pe_un un_neg pe_int) (pa_cons pe_int (pa_cons pe_int (pa_cons (pe_un un_neg pe_int) (pa_cons pe_int pa_nil))))))) (pa_cons (pe_lst (pa_cons pe_int (pa_cons (pe_un un_neg pe_int) (pa_cons pe_int (pa_cons pe_int (pa_cons (pe_un un_neg pe_int) (pa_cons pe_int pa_nil))))))) pa_nil))))))
      (pss_cons (ps_set (i := 5) sc__law_quarter.nd rfl (Or.inr rfl) (pe_ix (ix_listK (K := K)) (pv 4) (pe_op op_and (pv 1) pe_int) (fun _ _ => rfl)))
      (pss_cons (ps_set (i := 6) sc__law_quarter.nd rfl (Or.inl rfl) (pe_ix (ix_listK (K := K)) (pv 4) (pe_op op_and (pv 2) pe_int) (fun _ _ => rfl)))
      (pss_cons (ps_set (i := 7) sc__law_quarter.nd rfl (Or.inr rfl) (pe_op op_sub (pe_op op_shr (pv 1) pe_int) pe_int))
      (pss_cons (ps_set (i := 8) sc__law_quarter.nd rfl (Or.inr rfl) (pe_op op_sub (pe_op op_shr (pv 2) pe_int) pe_int))
      (pss_cons (ps_set (i := 9) sc__law_quarter.nd rfl (Or.inl rfl) pe_int)
      (pss_cons (ps_for (passes_of rfl) rfl (pi_range1 rfl T.b_range (pa_cons pe_int pa_nil)) (pg_name (i := 10) sc__law_quarter.nd rfl (Or.inr rfl)) (pss_one (ps_if (pt_cmp (pc_neI (pe_ix (ix_listK (K := K)) (pv 6) (pv 10) (fun _ _ => rfl)) pe_int)) (pss_one (ps_set (i := 9) sc__law_quarter.nd rfl (Or.inl rfl) (pe_op op_add (pv 9) (pe_op op_mul (pe_ix (ix_listK (K := K)) (pv 6) (pv 10) (fun _ _ => rfl)) (pe_callB (cr_sumK (K := K) rfl) (by rfl) T.b_sum (by decide +kernel) (pa_cons (pe_lc (own := [("s", 11)]) (g := gName 11) (by rfl) sc__law_quarter.nd (pi_range1 rfl T.b_range (pa_cons pe_int pa_nil)) (blkOk_by (own := [("s", 11)]) (N := N__law_quarter) (sc := defScope s__law_quarter) (by decide +kernel)) (fun _ _ _ _ _ => (pg_name (i := 11) sc__law_quarter.nd rfl (Or.inl rfl))) (fun _ _ _ _ _ => pts_nil) (fun _ _ _ _ _ => (pe_op op_mul (pe_ix (ix_listK (K := K)) (pv 5) (pv 11) (fun _ _ => rfl)) (vx_callX c__law_at pat__law_at_0 (.head _) hr (by decide) takes0 rfl (pa_cons (pv 0) (pa_cons (pe_op op_add (pv 7) (pv 11)) (pa_cons (pe_op op_add (pv 8) (pv 10)) pa_nil))) pk_nil)))) pa_nil)))))) pss_nil)))
      (pss_one (ps_ret (pe_callB (call_min2 rfl) (by rfl) T.b_min (by decide +kernel) (pa_cons (pe_callB (call_max2 rfl) (by rfl) T.b_max (by decide +kernel) (pa_cons (pe_op op_shr (pv 9) pe_int) (pa_cons pe_int pa_nil))) (pa_cons (pv 3) pa_nil)))))))))))), ?_⟩
    obtain ⟨KK, EE, hK0, hE, hw⟩ := cW_gen hw
    have S0 := Sep.startG sG
    unfold F__law_quarter at hw
    obtain ⟨a1407, vs1408, rfl, h1409, d1410⟩ := rp_list r_plane
    refine ⟨(by show 6 ≤ sizeLine; decide), fun p1411 n1412 => ?_⟩
    generalize g1413 : upd H p1411 _ = H1414
    obtain ⟨e1415, h1416⟩ := gen_new n1412 g1413
    have h1417 : H1414 p1411 = some (.lst (([0, 0, 64, 0, 0, 0] : (List Int)).map V.int)) := h1416
    have fr1418 := S0.free n1412
    have S1419 := S0.new n1412 e1415 h1417 fr1418
    refine ⟨_, rfl, _, rfl, (by show 6 ≤ sizeLine; decide), fun p1420 n1421 => ?_⟩
    generalize g1422 : upd H1414 p1420 _ = H1423
    obtain ⟨e1424, h1425⟩ := gen_new n1421 g1422
    have h1426 : H1423 p1420 = some (.lst (([1, (-5), 52, 20, (-5), 1] : (List Int)).map V.int)) := h1425
    have fr1427 := S1419.free n1421
    have S1428 := S1419.new n1421 e1424 h1426 fr1427
    refine ⟨_, rfl, _, rfl, (by show 6 ≤ sizeLine; decide), fun p1429 n1430 => ?_⟩
    generalize g1431 : upd H1423 p1429 _ = H1432
    obtain ⟨e1433, h1434⟩ := gen_new n1430 g1431
    have h1435 : H1432 p1429 = some (.lst (([2, (-10), 40, 40, (-10), 2] : (List Int)).map V.int)) := h1434
    have fr1436 := S1428.free n1430
    have S1437 := S1428.new n1430 e1433 h1435 fr1436
    refine ⟨_, rfl, _, rfl, (by show 6 ≤ sizeLine; decide), fun p1438 n1439 => ?_⟩
    generalize g1440 : upd H1432 p1438 _ = H1441
    obtain ⟨e1442, h1443⟩ := gen_new n1439 g1440
    have h1444 : H1441 p1438 = some (.lst (([1, (-5), 20, 52, (-5), 1] : (List Int)).map V.int)) := h1443
    have fr1445 := S1437.free n1439
    have S1446 := S1437.new n1439 e1442 h1444 fr1445
    have h1447 := (e1442 _ _ (e1433 _ _ (e1424 _ _ h1417)))
    obtain ⟨G1448, eG1449, hg1450, S1451⟩ := Sep.freeze (O' := [p1438, p1429, p1420]) S1446 (.tail _ (.tail _ (.tail _ (.head _)))) h1447 fr1418 ((all_cons ⟨(.head _), (ne_of_none (e1433 _ _ (e1424 _ _ h1417)) n1439).symm⟩ (all_cons ⟨(.tail _ (.head _)), (ne_of_none (e1424 _ _ h1417) n1430).symm⟩ (all_cons ⟨(.tail _ (.tail _ (.head _))), (ne_of_none h1417 n1421).symm⟩ all_nil))))
    have h1452 := (e1442 _ _ (e1433 _ _ h1426))
    obtain ⟨G1453, eG1454, hg1455, S1456⟩ := Sep.freeze (O' := [p1438, p1429]) S1451 (.tail _ (.tail _ (.head _))) h1452 fr1427 ((all_cons ⟨(.head _), (ne_of_none (e1433 _ _ h1426) n1439).symm⟩ (all_cons ⟨(.tail _ (.head _)), (ne_of_none h1426 n1430).symm⟩ all_nil)))
    have h1457 := (e1442 _ _ h1435)
    obtain ⟨G1458, eG1459, hg1460, S1461⟩ := Sep.freeze (O' := [p1438]) S1456 (.tail _ (.head _)) h1457 fr1436 ((all_cons ⟨(.head _), (ne_of_none h1435 n1439).symm⟩ all_nil))
    obtain ⟨G1462, eG1463, hg1464, S1465⟩ := Sep.freeze (O' := []) S1461 (.head _) h1444 fr1445 (all_nil)
    refine ⟨(by show 4 ≤ sizeLine; decide), fun p1466 n1467 => ?_⟩
    generalize g1468 : upd H1441 p1466 _ = H1469
    obtain ⟨e1470, h1471⟩ := gen_new n1467 g1468
    have h1472 : H1469 p1466 = some (.lst ([V.ref p1411, V.ref p1420, V.ref p1429, V.ref p1438])) := h1471
    have fr1473 := S1465.free n1467
    have S1474 := S1465.new n1467 e1470 h1472 fr1473
    have d1475 : RpAll G1462 ([V.ref p1411, V.ref p1420, V.ref p1429, V.ref p1438]) (([[0, 0, 64, 0, 0, 0], [1, (-5), 52, 20, (-5), 1], [2, (-10), 40, 40, (-10), 2], [1, (-5), 20, 52, (-5), 1]] : (List (List Int))).map (encL PyData.int)) := (RpAll.cons (rp_mk_ints (eG1463 _ _ (eG1459 _ _ (eG1454 _ _ hg1450)))) (RpAll.cons (rp_mk_ints (eG1463 _ _ (eG1459 _ _ hg1455))) (RpAll.cons (rp_mk_ints (eG1463 _ _ hg1460)) (RpAll.cons (rp_mk_ints hg1464) RpAll.nil))))
    obtain ⟨g1476, hw⟩ := cW_grd hw
    obtain ⟨v1477, a1478, r1479⟩ := RpAll.ixD (k := (PySem.Builtin.bitAnd (x') (3))) d1475 g1476
    obtain ⟨a1480, rfl, h1481⟩ := rp_ints r1479
    obtain ⟨g1482, hw⟩ := cW_grd hw
    obtain ⟨v1483, a1484, r1485⟩ := RpAll.ixD (k := (PySem.Builtin.bitAnd (y') (3))) d1475 g1482
    obtain ⟨a1486, rfl, h1487⟩ := rp_ints r1485
    refine ⟨_, rfl, _, rfl, _, _, rfl, rfl, _, _, _, _, rfl, rfl, (SqL.of h1472), a1478, _, rfl, _, rfl, _, _, rfl, rfl, _, _, _, _, rfl, rfl, (SqL.of h1472), a1484, _, rfl, _, _, rfl, rfl, (show (0 : Int) ≤ 2 by decide), _, _, rfl, rfl, ?_⟩
    have hw := cW_bnd hw
    refine ⟨_, rfl, _, _, rfl, rfl, (show (0 : Int) ≤ 2 by decide), _, _, rfl, rfl, ?_⟩
    have hw := cW_bnd hw
    obtain ⟨K1496, hK1497, hw⟩ := cW_push hw
    refine ⟨_, rfl, (by decide), (by decide), for_range (lo := 0) (n := Int.toNat (6)) (fun i σ H' => ∃ (total_1498 : Int) (u1499 : Option V) (G' : Hp), σ = [some (V.ref a1407), some (V.int (x')), some (V.int (y')), some (V.int (top')), some (V.ref p1466), some (V.ref a1480), some (V.ref a1486), some (V.int (((x' / 4) - 2))), some (V.int (((y' / 4) - 2))), some (V.int total_1498), u1499, none] ∧ Same G1462 G' ∧ Sep [] H G G' H' [p1466] ∧ H' p1466 = some (.lst ([V.ref p1411, V.ref p1420, V.ref p1429, V.ref p1438])) ∧ cW (forS (List.drop i (rng (0) (Int.toNat (6)))) total_1498 (fun s x => F__law_quarter_b1 (plane') ((itD ([[0, 0, 64, 0, 0, 0], [1, (-5), 52, 20, (-5), 1], [2, (-10), 40, 40, (-10), 2], [1, (-5), 20, 52, (-5), 1]]) ((PySem.Builtin.bitAnd (x') (3))))) ((itD ([[0, 0, 64, 0, 0, 0], [1, (-5), 52, 20, (-5), 1], [2, (-10), 40, 40, (-10), 2], [1, (-5), 20, 52, (-5), 1]]) ((PySem.Builtin.bitAnd (y') (3))))) (((x' / 4) - 2)) (((y' / 4) - 2)) s x)) K1496 EE) ?_ ?_ ?_⟩
    · exact ⟨(2048), _, _, rfl, (Same.refl _), S1474, h1472, hw⟩
    · intro i σ H1500 hi hw
      obtain ⟨total_1498, u1499, G1503, rfl, eG1504, S1501, h1502, hw⟩ := hw
      have hw := cW_forS (rng_get hi) hw
      generalize (0 + (i : Int)) = x1505 at hw ⊢
      have hw : cW (F__law_quarter_b1 (plane') ((itD ([[0, 0, 64, 0, 0, 0], [1, (-5), 52, 20, (-5), 1], [2, (-10), 40, 40, (-10), 2], [1, (-5), 20, 52, (-5), 1]]) ((PySem.Builtin.bitAnd (x') (3))))) ((itD ([[0, 0, 64, 0, 0, 0], [1, (-5), 52, 20, (-5), 1], [2, (-10), 40, 40, (-10), 2], [1, (-5), 20, 52, (-5), 1]]) ((PySem.Builtin.bitAnd (y') (3))))) (((x' / 4) - 2)) (((y' / 4) - 2)) (total_1498) (x1505)) _ EE := hw
      unfold F__law_quarter_b1 at hw
      obtain ⟨K1507, hK1508, hw⟩ := cW_name hw
      obtain ⟨g1510, hw⟩ := cW_grd hw
      refine ⟨_, rfl, _, rfl, _, _, _, _, rfl, rfl, (SqL.of (S1501.sG _ _ (eG1504 _ _ h1487))), (atI_map g1510), _, _, rfl, rfl, _, rfl, ?_⟩
      refine iteN (fun c1511 => ?_) (fun c1511 => ?_)
      · have hw := cW_neg c1511 hw
        obtain ⟨g1512, hw⟩ := cW_grd hw
        obtain ⟨K1519, hK1520, hw⟩ := cW_push hw
        refine ⟨_, rfl, _, rfl, _, rfl, _, _, _, _, rfl, rfl, (SqL.of (S1501.sG _ _ (eG1504 _ _ h1487))), (atI_map g1512), _, rfl, (by decide), (by decide), fun D1521 n1522 => lc_range (lo := 0) (n := Int.toNat (6)) (fun i H' => ∃ (G' : Hp) (acc1524 : (List Int)), Same G1503 G' ∧ Sep [] H G G' H' [D1521, p1466] ∧ H' p1466 = some (.lst ([V.ref p1411, V.ref p1420, V.ref p1429, V.ref p1438])) ∧ H' D1521 = some (.lst ((acc1524 : (List Int)).map V.int)) ∧ Same H1500 H' ∧ cW (mapA (List.drop i (rng (0) (Int.toNat (6)))) acc1524 (fun x => noEr (F__law_quarter_c2 (plane') ((itD ([[0, 0, 64, 0, 0, 0], [1, (-5), 52, 20, (-5), 1], [2, (-10), 40, 40, (-10), 2], [1, (-5), 20, 52, (-5), 1]]) ((PySem.Builtin.bitAnd (x') (3))))) (((x' / 4) - 2)) (((y' / 4) - 2)) (x1505) x))) K1519 EE) ?_ ?_ ?_⟩
        · generalize g1526 : upd H1500 D1521 _ = H1527
          obtain ⟨e1528, h1529⟩ := gen_new n1522 g1526
          have fr1530 := S1501.free n1522
          have S1531 := S1501.new n1522 e1528 h1529 fr1530
          have h1532 := (e1528 _ _ h1502)
          exact ⟨_, [], Same.refl _, S1531, h1532, h1529, e1528, hw⟩
        · intro i H1533 hi hw
          obtain ⟨G1536, acc1538, eG1537, S1534, h1545, h1535, eo1544, hw⟩ := hw
          obtain ⟨z1546, hw⟩ := cW_mapA (rng_get hi) hw
          generalize (0 + (i : Int)) = x1547 at hw ⊢
          have hw := cW_noEr hw
          have hw : cW (F__law_quarter_c2 (plane') ((itD ([[0, 0, 64, 0, 0, 0], [1, (-5), 52, 20, (-5), 1], [2, (-10), 40, 40, (-10), 2], [1, (-5), 20, 52, (-5), 1]]) ((PySem.Builtin.bitAnd (x') (3))))) (((x' / 4) - 2)) (((y' / 4) - 2)) (x1505) (x1547)) _ (fun _ => False) := hw
          unfold F__law_quarter_c2 at hw
          refine ⟨rfl, ?_⟩
          refine tyes_go ?_
          obtain ⟨g1549, hw⟩ := cW_grd hw
          refine ⟨_, rfl, _, rfl, _, _, _, _, rfl, rfl, (SqL.of (S1534.sG _ _ (eG1537 _ _ (eG1504 _ _ h1481)))), (atI_map g1549), _, rfl, _, rfl, _, rfl, _, _, rfl, rfl, _, rfl, _, rfl, _, _, rfl, rfl, rfl, rfl, G1536, _, _, _, _, rfl, S1534.sG, (Rp.hide_nil (rp_mk_list (S1534.bM _ _ h1409) (RpAll.mono S1534.bM d1410))), cW_call hw (fun v1550 hw => ?_) (fun e he => he.elim)⟩
          obtain ⟨g1551, hw⟩ := cW_grd hw
          refine ⟨_, _, rfl, rfl, g1551, _, h1535, (app_lenM z1546), ?_⟩
          generalize g1552 : upd H1533 D1521 _ = H1553
          obtain ⟨x1554, h1555⟩ := gen_mut g1552
          have S1556 := S1534.mut1 x1554 (.head _) h1555
          have hw := cW_ok hw
          have h1557 := (x1554 _ _ h1545 (ne_of_none h1502 n1522))
          exact ⟨_, (acc1538 ++ [((itD ((itD ([[0, 0, 64, 0, 0, 0], [1, (-5), 52, 20, (-5), 1], [2, (-10), 40, 40, (-10), 2], [1, (-5), 20, 52, (-5), 1]]) ((PySem.Builtin.bitAnd (x') (3))))) (x1547)) * v1550)]), eG1537, S1556, h1557, (snoc_map h1555), (same_mut eo1544 x1554 n1522), hw⟩
        intro H1558 hw
        obtain ⟨G1561, acc1563, eG1562, S1559, h1570, h1560, eo1569, hw⟩ := hw
        have hw := hK1520 _ (cW_mapA0 (rng_len _ _).symm hw)
        have fr1571 := S1501.free n1522
        obtain ⟨g1572, hw⟩ := cW_grd hw
        refine ⟨_, _, rfl, (SqL.of h1560), _, _, rfl, rfl, g1572, _, _, rfl, rfl, ?_⟩
        have hw := cW_bnd hw
        have hw := cW_ok hw
        have hw := hK1508 _ hw
        exact ⟨((total_1498 + ((itD ((itD ([[0, 0, 64, 0, 0, 0], [1, (-5), 52, 20, (-5), 1], [2, (-10), 40, 40, (-10), 2], [1, (-5), 20, 52, (-5), 1]]) ((PySem.Builtin.bitAnd (y') (3))))) (x1505)) * (List.sum (acc1563))))), _, _, rfl, (Same.trans eG1504 eG1562), (S1559.sub (all_cons (.tail _ (.head _)) all_nil)), h1570, hw⟩
      · have hw := cW_pos c1511 hw
        have hw := cW_ok hw
        have hw := hK1508 _ hw
        exact ⟨(total_1498), _, _, rfl, eG1504, S1501, h1502, hw⟩
    · intro σ H1574 hw
      obtain ⟨total_1498, u1499, G1577, rfl, eG1578, S1575, h1576, hw⟩ := hw
      have hw := hK1497 _ (cW_forS0 (rng_len _ _).symm hw)
      have hw : cW (F__law_quarter_r1 (top') (total_1498)) _ EE := hw
      unfold F__law_quarter_r1 at hw
      refine ⟨_, rfl, _, _, rfl, rfl, (show (0 : Int) ≤ 12 by decide), _, _, rfl, _, rfl, _, _, rfl, ?_⟩
      have hw := cW_ok hw
      exact hK0 _ hw _ S1575.b0

abbrev N__law_rows : List Str := ["planes", "plane", "vector", "n", "place", "rows", "top", "j", "row", "i"]
theorem sc__law_rows : FnScope N__law_rows ["planes", "plane", "vector", "n", "place"] (defScope s__law_rows) := ⟨rfl, rfl, rfl, by decide +kernel, rfl, by decide +kernel, by decide +kernel⟩
theorem ok__law_rows (D : DefX K mg "_law_rows" s__law_rows ["planes", "plane", "vector", "n", "place"] pats__law_rows) (T : Txt w K mg AD) (c__law_eighth : CalX P w K mg base 2 "_law_eighth" (sp__law_eighth K AD) pats__law_eighth) (c__law_quarter : CalX P w K mg base 2 "_law_quarter" (sp__law_quarter K AD) pats__law_quarter) : CalX P w K mg base 3 "_law_rows" (sp__law_rows K AD) pats__law_rows := by
  refine D.ok sc__law_rows (fun vs H Q E h => ?_) (fun f cdv A_ outer s H vs Q E hr h => ?_)
  · obtain ⟨G, v_planes, planes', plane', v_vector, vector', a_n, n', v_place, place', rfl, _⟩ := h
    rfl
  · obtain ⟨G, v_planes, planes', plane', v_vector, vector', a_n, n', v_place, place', rfl, sG, r_planes, r_vector, q_n, r_place, hw⟩ := h
    refine ⟨_, (pss_cons (ps_set (i := 5) sc__law_rows.nd rfl (Or.inl rfl) (pe_lst pa_nil))
      (pss_cons (ps_set (i := 6) sc__law_rows.nd rfl (Or.inl rfl) (pe_op op_sub (pe_op op_shlW pe_int (pe_ix (ix_listK (K := K)) (pv 3) pe_int (fun _ _ => rfl))) pe_int))
      (pss_cons (ps_for (passes_of rfl) rfl (pi_range2 rfl T.b_range (pa_cons (pe_ix (ix_tupK (K := K)) (pv 4) pe_int (fun _ _ => rfl)) (pa_cons (pe_op op_add (pe_ix (ix_tupK (K := K)) (pv 4) pe_int (fun _ _ => rfl)) (pe_ix (ix_tupK (K := K)) (pv 4) pe_int (fun _ _ => rfl))) pa_nil))) (pg_name (i := 7) sc__law_rows.nd rfl (Or.inl rfl)) (pss_cons (ps_set (i := 8) sc__law_rows.nd rfl (Or.inl rfl) (pe_lst pa_nil))
      (pss_cons (ps_for (passes_of rfl) rfl (pi_range2 rfl T.b_range (pa_cons (pe_ix (ix_tupK (K := K)) (pv 4) pe_int (fun _ _ => rfl)) (pa_cons (pe_op op_add (pe_ix (ix_tupK (K := K)) (pv 4) pe_int (fun _ _ => rfl)) (pe_ix (ix_tupK (K := K)) (pv 4) pe_int (fun _ _ => rfl))) pa_nil))) (pg_name (i := 9) sc__law_rows.nd rfl (Or.inl rfl)) (pss_one (ps_if (PW.pt (pw_and (pt_cmp (pc_gt (pv 1) pe_int)) (pw_and1 (pt_cmp (pc_eqI (pe_ix (ix_listK (K := K)) (pv 3) pe_int (fun _ _ => rfl)) pe_int))))) (pss_one (ps_expr (pe_bm PySem.F.plainAttrs_list PySem.F.slot_list_append PySem.F.type_list_append mt_append (pv 8) (pa_cons (vx_callX c__law_eighth pat__law_eighth_0 (.head _) hr (by decide) (takes_of rfl rfl rfl rfl) rfl (pa_cons (pe_ix (ix_listK (K := K)) (pv 0) (pv 1) (fun _ _ => rfl)) (pa_cons (pe_op op_add (pe_op op_mul pe_int (pv 9)) (pe_ix (ix_tupK (K := K)) (pv 2) pe_int (fun _ _ => rfl))) (pa_cons (pe_op op_add (pe_op op_mul pe_int (pv 7)) (pe_ix (ix_tupK (K := K)) (pv 2) pe_int (fun _ _ => rfl))) pa_nil))) pk_nil) pa_nil)))) (pss_one (ps_expr (pe_bm PySem.F.plainAttrs_list PySem.F.slot_list_append PySem.F.type_list_append mt_append (pv 8) (pa_cons (vx_callX c__law_quarter pat__law_quarter_0 (.head _) hr (by decide) (takes_of rfl rfl rfl rfl) rfl (pa_cons (pe_ix (ix_listK (K := K)) (pv 0) (pv 1) (fun _ _ => rfl)) (pa_cons (pe_op op_add (pe_op op_mul pe_int (pv 9)) (pe_ix (ix_tupK (K := K)) (pv 2) pe_int (fun _ _ => rfl))) (pa_cons (pe_op op_add (pe_op op_mul pe_int (pv 7)) (pe_ix (ix_tupK (K := K)) (pv 2) pe_int (fun _ _ => rfl))) (pa_cons (pv 6) pa_nil)))) pk_nil) pa_nil)))))))
      (pss_one (ps_expr (pe_bm PySem.F.plainAttrs_list PySem.F.slot_list_append PySem.F.type_list_append mt_append (pv 5) (pa_cons (pv 8) pa_nil)))))))
      (pss_one (ps_ret (pv 5)))))), ?_⟩
    obtain ⟨KK, EE, hK0, hE, hw⟩ := cW_gen hw
    have S0 := Sep.startG sG
    unfold F__law_rows at hw
    obtain ⟨a1580, vs1581, rfl, h1582, d1583⟩ := rp_list r_planes
    obtain ⟨a1584, v1586, v1587, rfl, h1585, r1588, r1589⟩ := rp_tup2 r_vector
    obtain rfl := rp_int r1588
    obtain rfl := rp_int r1589
    obtain ⟨a1590, v1592, v1593, v1594, v1595, rfl, h1591, r1596, r1597, r1598, r1599⟩ := rp_tup4 r_place
    obtain rfl := rp_int r1596
    obtain rfl := rp_int r1597
    obtain rfl := rp_int r1598
    obtain rfl := rp_int r1599
    refine ⟨(by show 0 ≤ sizeLine; decide), fun p1600 n1601 => ?_⟩
    generalize g1602 : upd H p1600 _ = H1603
    obtain ⟨e1604, h1605⟩ := gen_new n1601 g1602
    have h1606 : H1603 p1600 = some (.lst ([])) := h1605
    have fr1607 := S0.free n1601
    have S1608 := S0.new n1601 e1604 h1606 fr1607
    have d1609 : RpAll G ([]) ((([] : (List (List Int))) : (List (List Int))).map (encL PyData.int)) := RpAll.nil
    obtain ⟨g1610, hw⟩ := cW_grd hw
    obtain ⟨g1611, hw⟩ := cW_grd hw
    refine ⟨_, rfl, _, _, _, _, rfl, rfl, (SqL.of (S1608.bM _ _ q_n)), (atI_map g1610), _, _, rfl, rfl, (shl_side g1611.1 g1611.2.1 g1611.2.2.1 g1611.2.2.2), _, _, rfl, rfl, ?_⟩
    have hw := cW_bnd hw
    obtain ⟨g1613, hw⟩ := cW_grd hw
    obtain ⟨K1620, hK1621, hw⟩ := cW_push hw
    refine ⟨_, rfl, _, _, _, _, rfl, rfl, (SqT.of (S1608.bM _ _ h1591)), rfl, _, rfl, _, _, _, _, rfl, rfl, (SqT.of (S1608.bM _ _ h1591)), rfl, _, rfl, _, _, _, _, rfl, rfl, (SqT.of (S1608.bM _ _ h1591)), rfl, _, _, rfl, rfl, _, _, rfl, g1613, for_range (lo := place'.2.1) (n := Int.toNat ((place'.2.1 + place'.2.2.2) - place'.2.1)) (fun i σ H' => ∃ (rows_1622 : (List (List Int))) (vs1623 : List V) (u1624 : Option V) (u1625 : Option V) (u1626 : Option V) (G' : Hp), σ = [some (V.ref a1580), some (V.int (plane')), some (V.ref a1584), some (V.ref a_n), some (V.ref a1590), some (V.ref p1600), some (V.int (((1 * 2 ^ Int.toNat ((itD (n') (2)))) - 1))), u1624, u1625, u1626] ∧ Same G G' ∧ Sep [] H G G' H' [p1600] ∧ H' p1600 = some (.lst (vs1623)) ∧ RpAll G' (vs1623) ((rows_1622 : (List (List Int))).map (encL PyData.int)) ∧ cW (forS (List.drop i (rng (place'.2.1) (Int.toNat ((place'.2.1 + place'.2.2.2) - place'.2.1)))) rows_1622 (fun s x => F__law_rows_b1 (planes') (plane') (vector') (n') (place') (((1 * 2 ^ Int.toNat ((itD (n') (2)))) - 1)) s x)) K1620 EE) ?_ ?_ ?_⟩
    · exact ⟨(([] : (List (List Int)))), _, _, _, _, _, rfl, (Same.refl _), S1608, h1606, d1609, hw⟩
    · intro i σ H1627 hi hw
      obtain ⟨rows_1622, vs1623, u1624, u1625, u1626, G1631, rfl, eG1632, S1628, h1629, d1630, hw⟩ := hw
      have hw := cW_forS (rng_get hi) hw
      generalize (place'.2.1 + (i : Int)) = x1633 at hw ⊢
      have hw : cW (F__law_rows_b1 (planes') (plane') (vector') (n') (place') (((1 * 2 ^ Int.toNat ((itD (n') (2)))) - 1)) (rows_1622) (x1633)) _ EE := hw
      unfold F__law_rows_b1 at hw
      obtain ⟨K1635, hK1636, hw⟩ := cW_name hw
      refine ⟨(by show 0 ≤ sizeLine; decide), fun p1638 n1639 => ?_⟩
      generalize g1640 : upd H1627 p1638 _ = H1641
      obtain ⟨e1642, h1643⟩ := gen_new n1639 g1640
      have h1644 : H1641 p1638 = some (.lst ((([] : (List Int)) : (List Int)).map V.int)) := h1643
      have fr1645 := S1628.free n1639
      have S1646 := S1628.new n1639 e1642 h1644 fr1645
      obtain ⟨g1647, hw⟩ := cW_grd hw
      obtain ⟨K1655, hK1656, hw⟩ := cW_push hw
      refine ⟨_, rfl, _, _, _, _, rfl, rfl, (SqT.of (S1646.bM _ _ h1591)), rfl, _, rfl, _, _, _, _, rfl, rfl, (SqT.of (S1646.bM _ _ h1591)), rfl, _, rfl, _, _, _, _, rfl, rfl, (SqT.of (S1646.bM _ _ h1591)), rfl, _, _, rfl, rfl, _, _, rfl, g1647, for_range (lo := place'.1) (n := Int.toNat ((place'.1 + place'.2.2.1) - place'.1)) (fun i σ H' => ∃ (row_1657 : (List Int)) (u1658 : Option V) (G' : Hp), σ = [some (V.ref a1580), some (V.int (plane')), some (V.ref a1584), some (V.ref a_n), some (V.ref a1590), some (V.ref p1600), some (V.int (((1 * 2 ^ Int.toNat ((itD (n') (2)))) - 1))), some (V.int (x1633)), some (V.ref p1638), u1658] ∧ Same G1631 G' ∧ Sep [] H G G' H' [p1600, p1638] ∧ H' p1600 = some (.lst (vs1623)) ∧ H' p1638 = some (.lst ((row_1657 : (List Int)).map V.int)) ∧ cW (forS (List.drop i (rng (place'.1) (Int.toNat ((place'.1 + place'.2.2.1) - place'.1)))) row_1657 (fun s x => F__law_rows_b2 (planes') (plane') (vector') (n') (((1 * 2 ^ Int.toNat ((itD (n') (2)))) - 1)) (x1633) s x)) K1655 EE) ?_ ?_ ?_⟩
      · have h1659 := (e1642 _ _ h1629)
        exact ⟨(([] : (List Int))), _, _, rfl, (Same.refl _), (S1646.sub (all_cons (.tail _ (.head _)) (all_cons (.head _) all_nil))), h1659, h1644, hw⟩
      · intro i σ H1660 hi hw
        obtain ⟨row_1657, u1658, G1664, rfl, eG1665, S1661, h1662, h1663, hw⟩ := hw
        have hw := cW_forS (rng_get hi) hw
        generalize (place'.1 + (i : Int)) = x1666 at hw ⊢
        have hw : cW (F__law_rows_b2 (planes') (plane') (vector') (n') (((1 * 2 ^ Int.toNat ((itD (n') (2)))) - 1)) (x1633) (row_1657) (x1666)) _ EE := hw
        unfold F__law_rows_b2 at hw
        obtain ⟨K1668, hK1669, hw⟩ := cW_name hw
        refine ⟨_, rfl, _, _, rfl, rfl, _, rfl, ?_⟩
        refine iteD (fun c1671 => ?_) (fun c1671 => ?_)
        · have hw := cW_pos c1671 hw
          obtain ⟨g1672, hw⟩ := cW_grd hw
          refine ⟨_, rfl, _, _, _, _, rfl, rfl, (SqL.of (S1661.bM _ _ q_n)), (atI_map g1672), _, _, rfl, rfl, _, rfl, ?_⟩
          refine iteD (fun c1673 => ?_) (fun c1673 => ?_)
          · have hw := cW_pos c1673 hw
            obtain ⟨g1674, hw⟩ := cW_grd hw
            obtain ⟨v1675, a1676, r1677⟩ := RpAll.ixD (k := plane') d1583 g1674
            obtain ⟨a1678, vs1679, rfl, h1680, d1681⟩ := rp_list r1677
            refine ⟨_, rfl, (.inl ⟨rfl, _, SqL.of h1663⟩), _, rfl, _, rfl, _, _, _, _, rfl, rfl, (SqL.of (S1661.bM _ _ h1582)), a1676, _, rfl, _, _, rfl, rfl, (.inl ⟨by decide, by decide⟩), _, rfl, _, _, _, _, rfl, rfl, (SqT.of (S1661.bM _ _ h1585)), rfl, _, _, rfl, rfl, _, rfl, _, _, rfl, rfl, (.inl ⟨by decide, by decide⟩), _, rfl, _, _, _, _, rfl, rfl, (SqT.of (S1661.bM _ _ h1585)), rfl, _, _, rfl, rfl, rfl, rfl, G1664, _, _, _, _, rfl, S1661.sG, (Rp.hide_nil (rp_mk_list (S1661.bM _ _ h1680) (RpAll.mono S1661.bM d1681))), cW_call hw (fun v1682 hw => ?_) (fun e he => hE e he _ S1661.b0)⟩
            obtain ⟨g1683, hw⟩ := cW_grd hw
            refine ⟨_, _, _, rfl, rfl, h1663, (app_lenM g1683), ?_⟩
            generalize g1684 : upd H1660 p1638 _ = H1685
            obtain ⟨x1686, h1687⟩ := gen_mut g1684
            have h1688 : H1685 p1638 = some (.lst (((row_1657) ++ [v1682] : (List Int)).map V.int)) := snoc_map h1687
            have S1689 := S1661.mut1 x1686 (.tail _ (.head _)) h1688
            have hw := cW_bnd hw
            have hw := cW_ok hw
            have hw := hK1669 _ hw
            have h1691 := (x1686 _ _ h1662 (ne_of_none h1629 n1639))
            exact ⟨((row_1657) ++ [v1682]), _, _, rfl, eG1665, S1689, h1691, h1688, hw⟩
          · have hw := cW_neg c1673 hw
            obtain ⟨g1692, hw⟩ := cW_grd hw
            obtain ⟨v1693, a1694, r1695⟩ := RpAll.ixD (k := plane') d1583 g1692
            obtain ⟨a1696, vs1697, rfl, h1698, d1699⟩ := rp_list r1695
            refine ⟨_, rfl, (.inl ⟨rfl, _, SqL.of h1663⟩), _, rfl, _, rfl, _, _, _, _, rfl, rfl, (SqL.of (S1661.bM _ _ h1582)), a1694, _, rfl, _, _, rfl, rfl, (.inl ⟨by decide, by decide⟩), _, rfl, _, _, _, _, rfl, rfl, (SqT.of (S1661.bM _ _ h1585)), rfl, _, _, rfl, rfl, _, rfl, _, _, rfl, rfl, (.inl ⟨by decide, by decide⟩), _, rfl, _, _, _, _, rfl, rfl, (SqT.of (S1661.bM _ _ h1585)), rfl, _, _, rfl, rfl, _, rfl, rfl, rfl, G1664, _, _, _, _, _, rfl, S1661.sG, (Rp.hide_nil (rp_mk_list (S1661.bM _ _ h1698) (RpAll.mono S1661.bM d1699))), cW_call hw (fun v1700 hw H1701 e1702 => ?_) (fun e he H2 e2 => hE e he H2 (Same.trans S1661.b0 e2))⟩
            have S1703 := S1661.same e1702
            obtain ⟨g1704, hw⟩ := cW_grd hw
            have h1705 := (e1702 _ _ h1663)
            refine ⟨_, _, _, rfl, rfl, h1705, (app_lenM g1704), ?_⟩
            generalize g1706 : upd H1701 p1638 _ = H1707
            obtain ⟨x1708, h1709⟩ := gen_mut g1706
            have h1710 : H1707 p1638 = some (.lst (((row_1657) ++ [v1700] : (List Int)).map V.int)) := snoc_map h1709
            have S1711 := S1703.mut1 x1708 (.tail _ (.head _)) h1710
            have hw := cW_bnd hw
            have hw := cW_ok hw
            have hw := hK1669 _ hw
            have h1713 := (x1708 _ _ (e1702 _ _ h1662) (ne_of_none h1629 n1639))
            exact ⟨((row_1657) ++ [v1700]), _, _, rfl, eG1665, S1711, h1713, h1710, hw⟩
        · have hw := cW_neg c1671 hw
          refine iteF ?_
          obtain ⟨g1714, hw⟩ := cW_grd hw
          obtain ⟨v1715, a1716, r1717⟩ := RpAll.ixD (k := plane') d1583 g1714
          obtain ⟨a1718, vs1719, rfl, h1720, d1721⟩ := rp_list r1717
          refine ⟨_, rfl, (.inl ⟨rfl, _, SqL.of h1663⟩), _, rfl, _, rfl, _, _, _, _, rfl, rfl, (SqL.of (S1661.bM _ _ h1582)), a1716, _, rfl, _, _, rfl, rfl, (.inl ⟨by decide, by decide⟩), _, rfl, _, _, _, _, rfl, rfl, (SqT.of (S1661.bM _ _ h1585)), rfl, _, _, rfl, rfl, _, rfl, _, _, rfl, rfl, (.inl ⟨by decide, by decide⟩), _, rfl, _, _, _, _, rfl, rfl, (SqT.of (S1661.bM _ _ h1585)), rfl, _, _, rfl, rfl, _, rfl, rfl, rfl, G1664, _, _, _, _, _, rfl, S1661.sG, (Rp.hide_nil (rp_mk_list (S1661.bM _ _ h1720) (RpAll.mono S1661.bM d1721))), cW_call hw (fun v1722 hw H1723 e1724 => ?_) (fun e he H2 e2 => hE e he H2 (Same.trans S1661.b0 e2))⟩
          have S1725 := S1661.same e1724
          obtain ⟨g1726, hw⟩ := cW_grd hw
          have h1727 := (e1724 _ _ h1663)
          refine ⟨_, _, _, rfl, rfl, h1727, (app_lenM g1726), ?_⟩
          generalize g1728 : upd H1723 p1638 _ = H1729
          obtain ⟨x1730, h1731⟩ := gen_mut g1728
          have h1732 : H1729 p1638 = some (.lst (((row_1657) ++ [v1722] : (List Int)).map V.int)) := snoc_map h1731
          have S1733 := S1725.mut1 x1730 (.tail _ (.head _)) h1732
          have hw := cW_bnd hw
          have hw := cW_ok hw
          have hw := hK1669 _ hw
          have h1735 := (x1730 _ _ (e1724 _ _ h1662) (ne_of_none h1629 n1639))
          exact ⟨((row_1657) ++ [v1722]), _, _, rfl, eG1665, S1733, h1735, h1732, hw⟩
      · intro σ H1736 hw
        obtain ⟨row_1657, u1658, G1740, rfl, eG1741, S1737, h1738, h1739, hw⟩ := hw
        have hw := hK1656 _ (cW_forS0 (rng_len _ _).symm hw)
        have hw : cW (F__law_rows_r2 (rows_1622) (row_1657)) _ EE := hw
        unfold F__law_rows_r2 at hw
        obtain ⟨g1743, hw⟩ := cW_grd hw
        refine ⟨_, rfl, (.inl ⟨rfl, _, SqL.of h1738⟩), _, rfl, ?_⟩
        obtain ⟨G1744, eG1745, hg1746, S1747⟩ := Sep.freeze (O' := [p1600]) S1737 (.tail _ (.head _)) h1739 fr1645 ((all_cons ⟨(.head _), (ne_of_none h1629 n1639)⟩ all_nil))
        refine ⟨_, _, _, rfl, rfl, h1738, (app_len (RpAll.mono eG1745 (RpAll.mono eG1741 d1630)) g1743), ?_⟩
        generalize g1748 : upd H1736 p1600 _ = H1749
        obtain ⟨x1750, h1751⟩ := gen_mut g1748
        have h1752 : H1749 p1600 = some (.lst (vs1623 ++ [V.ref p1638])) := h1751
        have S1753 := S1747.mut1 x1750 (.head _) h1752
        have d1754 : RpAll G1744 (vs1623 ++ [V.ref p1638]) (((rows_1622) ++ [row_1657] : (List (List Int))).map (encL PyData.int)) := app_map (RpAll.mono eG1745 (RpAll.mono eG1741 d1630)) (RpAll.one (rp_mk_ints hg1746))
        have hw := cW_bnd hw
        have hw := cW_ok hw
        have hw := hK1636 _ hw
        exact ⟨((rows_1622) ++ [row_1657]), _, _, _, _, _, rfl, (Same.trans (Same.trans eG1632 eG1741) eG1745), S1753, h1752, d1754, hw⟩
    · intro σ H1756 hw
      obtain ⟨rows_1622, vs1623, u1624, u1625, u1626, G1760, rfl, eG1761, S1757, h1758, d1759, hw⟩ := hw
      have hw := hK1621 _ (cW_forS0 (rng_len _ _).symm hw)
      have hw : cW (F__law_rows_r1  (rows_1622)) _ EE := hw
      unfold F__law_rows_r1 at hw
      refine ⟨_, rfl, ?_⟩
      obtain ⟨G1763, eG1764, hg1765, S1766⟩ := Sep.freeze (O' := []) S1757 (.head _) h1758 fr1607 (all_nil)
      have hw := cW_ok hw
      exact hK0 _ hw _ _ _ S1766.b0 S1766.g0 S1766.sG S1766.gn (rp_mk_list hg1765 (RpAll.mono eG1764 d1759))

abbrev N__law_predict : List Str := ["n", "kind", "weight", "motion", "references", "plane", "place", "last", "first", "rows", "j", "i"]
theorem sc__law_predict : FnScope N__law_predict ["n", "kind", "weight", "motion", "references", "plane", "place"] (defScope s__law_predict) := ⟨rfl, rfl, rfl, by decide +kernel, rfl, by decide +kernel, by decide +kernel⟩
theorem ok__law_predict (D : DefX K mg "_law_predict" s__law_predict ["n", "kind", "weight", "motion", "references", "plane", "place"] pats__law_predict) (T : Txt w K mg AD) (c__law_rows : CalX P w K mg base 3 "_law_rows" (sp__law_rows K AD) pats__law_rows) : CalX P w K mg base 4 "_law_predict" (sp__law_predict K AD) pats__law_predict := by
  refine D.ok sc__law_predict (fun vs H Q E h => ?_) (fun f cdv A_ outer s H vs Q E hr h => ?_)
  · obtain ⟨G, a_n, n', kind', weight', v_motion, motion', v_references, references', plane', v_place, place', rfl, _⟩ := h
    rfl
  · obtain ⟨G, a_n, n', kind', weight', v_motion, motion', v_references, references', plane', v_place, place', rfl, sG, q_n, r_motion, r_references, r_place, hw⟩ := h
    refine ⟨_, (pss_cons (ps_if (pt_cmp (pc_eqI (pv 1) pe_int)) (pss_one (ps_ret (vx_callX c__law_rows pat__law_rows_0 (.head _) hr (by decide) (takes_of rfl rfl rfl rfl) rfl (pa_cons (pe_ix (ix_listK (K := K)) (pv 4) (pe_ix (ix_tupK (K := K)) (pv 3) pe_int (fun _ _ => rfl)) (fun _ _ => rfl)) (pa_cons (pv 5) (pa_cons (pe_ix (ix_tupK (K := K)) (pv 3) pe_int (fun _ _ => rfl)) (pa_cons (pv 0) (pa_cons (pv 6) pa_nil))))) pk_nil))) pss_nil)
      (pss_cons (ps_if (pt_cmp (pc_eqI (pe_ix (ix_tupK (K := K)) (pv 3) pe_int (fun _ _ => rfl)) pe_int)) (pss_one (ps_ret (vx_callX c__law_rows pat__law_rows_0 (.head _) hr (by decide) (takes_of rfl rfl rfl rfl) rfl (pa_cons (pe_ix (ix_listK (K := K)) (pv 4) pe_int (fun _ _ => rfl)) (pa_cons (pv 5) (pa_cons (pe_ix (ix_tupK (K := K)) (pv 3) pe_int (fun _ _ => rfl)) (pa_cons (pv 0) (pa_cons (pv 6) pa_nil))))) pk_nil))) pss_nil)
      (pss_cons (ps_set (i := 7) sc__law_predict.nd rfl (Or.inr rfl) (vx_callX c__law_rows pat__law_rows_0 (.head _) hr (by decide) (takes_of rfl rfl rfl rfl) rfl (pa_cons (pe_ix (ix_listK (K := K)) (pv 4) pe_int (fun _ _ => rfl)) (pa_cons (pv 5) (pa_cons (pe_ix (ix_tupK (K := K)) (pv 3) pe_int (fun _ _ => rfl)) (pa_cons (pv 0) (pa_cons (pv 6) pa_nil))))) pk_nil))
      (pss_cons (ps_if (pt_cmp (pc_eqI (pe_ix (ix_tupK (K := K)) (pv 3) pe_int (fun _ _ => rfl)) pe_int)) (pss_one (ps_ret (pv 7))) pss_nil)
      (pss_cons (ps_set (i := 8) sc__law_predict.nd rfl (Or.inr rfl) (vx_callX c__law_rows pat__law_rows_0 (.head _) hr (by decide) (takes_of rfl rfl rfl rfl) rfl (pa_cons (pe_ix (ix_listK (K := K)) (pv 4) pe_int (fun _ _ => rfl)) (pa_cons (pv 5) (pa_cons (pe_ix (ix_tupK (K := K)) (pv 3) pe_int (fun _ _ => rfl)) (pa_cons (pv 0) (pa_cons (pv 6) pa_nil))))) pk_nil))
      (pss_cons (ps_set (i := 9) sc__law_predict.nd rfl (Or.inl rfl) (pe_lst pa_nil))
      (pss_cons (ps_for (passes_of rfl) rfl (pi_range1 rfl T.b_range (pa_cons (pe_callB (call_lenLK (K := K)) (by rfl) T.b_len (by decide +kernel) (pa_cons (pv 8) pa_nil)) pa_nil)) (pg_name (i := 10) sc__law_predict.nd rfl (Or.inr rfl)) (pss_one (ps_expr (pe_bm PySem.F.plainAttrs_list PySem.F.slot_list_append PySem.F.type_list_append mt_append (pv 9) (pa_cons (pe_lc (own := [("i", 11)]) (g := gName 11) (by rfl) sc__law_predict.nd (pi_range1 rfl T.b_range (pa_cons (pe_callB (call_lenLiK (K := K)) (by rfl) T.b_len (by decide +kernel) (pa_cons (pe_ix (ix_listK (K := K)) (pv 8) (pv 10) (fun _ _ => rfl)) pa_nil)) pa_nil)) (blkOk_by (own := [("i", 11)]) (N := N__law_predict) (sc := defScope s__law_predict) (by decide +kernel)) (fun _ _ _ _ _ => (pg_name (i := 11) sc__law_predict.nd rfl (Or.inl rfl))) (fun _ _ _ _ _ => pts_nil) (fun _ _ _ _ _ => (pe_op op_shr (pe_op op_add (pe_op op_add (pe_op op_mul (pe_ix (ix_listK (K := K)) (pe_ix (ix_listK (K := K)) (pv 7) (pv 10) (fun _ _ => rfl)) (pv 11) (fun _ _ => rfl)) (pv 2)) (pe_op op_mul (pe_ix (ix_listK (K := K)) (pe_ix (ix_listK (K := K)) (pv 8) (pv 10) (fun _ _ => rfl)) (pv 11) (fun _ _ => rfl)) (pe_op op_sub pe_int (pv 2)))) pe_int) pe_int))) pa_nil)))))
      (pss_one (ps_ret (pv 9)))))))))), ?_⟩
    obtain ⟨KK, EE, hK0, hE, hw⟩ := cW_gen hw
    have S0 := Sep.startG sG
    unfold F__law_predict at hw
    obtain ⟨a1767, v1769, v1770, v1771, v1772, rfl, h1768, r1773, r1774, r1775, r1776⟩ := rp_tup4 r_motion
    obtain rfl := rp_int r1773
    obtain rfl := rp_int r1774
    obtain ⟨a1777, vs1778, rfl, h1779, d1780⟩ := rp_list r_references
    obtain ⟨a1781, v1783, v1784, v1785, v1786, rfl, h1782, r1787, r1788, r1789, r1790⟩ := rp_tup4 r_place
    obtain rfl := rp_int r1787
    obtain rfl := rp_int r1788
    obtain rfl := rp_int r1789
    obtain rfl := rp_int r1790
    refine ⟨_, rfl, _, _, rfl, rfl, _, rfl, ?_⟩
    refine iteD (fun c1791 => ?_) (fun c1791 => ?_)
    · have hw := cW_pos c1791 hw
      obtain ⟨g1792, hw⟩ := cW_grd hw
      obtain ⟨v1793, a1794, r1795⟩ := RpAll.ixD (k := motion'.2.1) d1780 g1792
      obtain ⟨a1796, vs1797, rfl, h1798, d1799⟩ := rp_list r1795
      obtain ⟨g1800, hw⟩ := cW_grd hw
      have r1801 : Rp (hideL [] H) v1771 ((encT2 PyData.int PyData.int) (((cT2 cI cI)).dec (motion'.2.2.1))) := rp_dcast (cT2 cI cI) g1800 r1775
      obtain ⟨a1802, v1804, v1805, rfl, h1803, r1806, r1807⟩ := rp_tup2 r1801
      obtain rfl := rp_int r1806
      obtain rfl := rp_int r1807
      refine ⟨_, rfl, _, rfl, _, _, _, _, rfl, rfl, (SqT.of (S0.bM _ _ h1768)), rfl, _, _, _, _, rfl, rfl, (SqL.of (S0.bM _ _ h1779)), a1794, _, rfl, _, rfl, _, _, _, _, rfl, rfl, (SqT.of (S0.bM _ _ h1768)), rfl, _, rfl, _, rfl, rfl, rfl, G, _, _, _, _, _, _, _, _, _, rfl, S0.sG, (Rp.hide_nil (rp_mk_list (S0.bM _ _ h1798) (RpAll.mono S0.bM d1799))), (Rp.hide_nil (rp_mk2 (S0.bM _ _ h1803) (.int _) (.int _))), (hide_nil (S0.bM _ _ q_n)), (Rp.hide_nil (rp_mk4 (S0.bM _ _ h1782) (.int _) (.int _) (.int _) (.int _))), cW_call hw (fun v1808 hw v1811 H1809 G1812 e1810 eG1813 sG1814 hn1815 r1816 => ?_) (fun e he H2 e2 => hE e he H2 (Same.trans S0.b0 e2))⟩
      have S1817 := S0.step e1810 eG1813 sG1814 hn1815
      obtain ⟨a1818, vs1819, rfl, h1820, d1821⟩ := rp_list r1816
      have hw := cW_ok hw
      exact hK0 _ hw _ _ _ S1817.b0 S1817.g0 S1817.sG S1817.gn (rp_mk_list h1820 d1821)
    · have hw := cW_neg c1791 hw
      refine ⟨_, rfl, _, _, _, _, rfl, rfl, (SqT.of (S0.bM _ _ h1768)), rfl, _, _, rfl, rfl, _, rfl, ?_⟩
      refine iteD (fun c1822 => ?_) (fun c1822 => ?_)
      · have hw := cW_pos c1822 hw
        obtain ⟨g1823, hw⟩ := cW_grd hw
        obtain ⟨v1824, a1825, r1826⟩ := RpAll.ixD (k := 0) d1780 g1823
        obtain ⟨a1827, vs1828, rfl, h1829, d1830⟩ := rp_list r1826
        obtain ⟨g1831, hw⟩ := cW_grd hw
        have r1832 : Rp (hideL [] H) v1771 ((encT2 PyData.int PyData.int) (((cT2 cI cI)).dec (motion'.2.2.1))) := rp_dcast (cT2 cI cI) g1831 r1775
        obtain ⟨a1833, v1835, v1836, rfl, h1834, r1837, r1838⟩ := rp_tup2 r1832
        obtain rfl := rp_int r1837
        obtain rfl := rp_int r1838
        refine ⟨_, rfl, _, _, _, _, rfl, rfl, (SqL.of (S0.bM _ _ h1779)), a1825, _, rfl, _, rfl, _, _, _, _, rfl, rfl, (SqT.of (S0.bM _ _ h1768)), rfl, _, rfl, _, rfl, rfl, rfl, G, _, _, _, _, _, _, _, _, _, rfl, S0.sG, (Rp.hide_nil (rp_mk_list (S0.bM _ _ h1829) (RpAll.mono S0.bM d1830))), (Rp.hide_nil (rp_mk2 (S0.bM _ _ h1834) (.int _) (.int _))), (hide_nil (S0.bM _ _ q_n)), (Rp.hide_nil (rp_mk4 (S0.bM _ _ h1782) (.int _) (.int _) (.int _) (.int _))), cW_call hw (fun v1839 hw v1842 H1840 G1843 e1841 eG1844 sG1845 hn1846 r1847 => ?_) (fun e he H2 e2 => hE e he H2 (Same.trans S0.b0 e2))⟩
        have S1848 := S0.step e1841 eG1844 sG1845 hn1846
        obtain ⟨a1849, vs1850, rfl, h1851, d1852⟩ := rp_list r1847
        have hw := cW_ok hw
        exact hK0 _ hw _ _ _ S1848.b0 S1848.g0 S1848.sG S1848.gn (rp_mk_list h1851 d1852)
      · have hw := cW_neg c1822 hw
        obtain ⟨g1853, hw⟩ := cW_grd hw
        obtain ⟨v1854, a1855, r1856⟩ := RpAll.ixD (k := 1) d1780 g1853
        obtain ⟨a1857, vs1858, rfl, h1859, d1860⟩ := rp_list r1856
        obtain ⟨g1861, hw⟩ := cW_grd hw
        have r1862 : Rp (hideL [] H) v1772 ((encT2 PyData.int PyData.int) (((cT2 cI cI)).dec (motion'.2.2.2))) := rp_dcast (cT2 cI cI) g1861 r1776
        obtain ⟨a1863, v1865, v1866, rfl, h1864, r1867, r1868⟩ := rp_tup2 r1862
        obtain rfl := rp_int r1867
        obtain rfl := rp_int r1868
        refine ⟨_, rfl, _, _, _, _, rfl, rfl, (SqL.of (S0.bM _ _ h1779)), a1855, _, rfl, _, rfl, _, _, _, _, rfl, rfl, (SqT.of (S0.bM _ _ h1768)), rfl, _, rfl, _, rfl, rfl, rfl, G, _, _, _, _, _, _, _, _, _, rfl, S0.sG, (Rp.hide_nil (rp_mk_list (S0.bM _ _ h1859) (RpAll.mono S0.bM d1860))), (Rp.hide_nil (rp_mk2 (S0.bM _ _ h1864) (.int _) (.int _))), (hide_nil (S0.bM _ _ q_n)), (Rp.hide_nil (rp_mk4 (S0.bM _ _ h1782) (.int _) (.int _) (.int _) (.int _))), cW_call hw (fun v1869 hw v1872 H1870 G1873 e1871 eG1874 sG1875 hn1876 r1877 => ?_) (fun e he H2 e2 => hE e he H2 (Same.trans S0.b0 e2))⟩
        have S1878 := S0.step e1871 eG1874 sG1875 hn1876
        obtain ⟨a1879, vs1880, rfl, h1881, d1882⟩ := rp_list r1877
        refine ⟨_, rfl, _, _, _, _, rfl, rfl, (SqT.of (S1878.bM _ _ h1768)), rfl, _, _, rfl, rfl, _, rfl, ?_⟩
        refine iteD (fun c1883 => ?_) (fun c1883 => ?_)
        · have hw := cW_pos c1883 hw
          refine ⟨_, rfl, ?_⟩
          have hw := cW_ok hw
          exact hK0 _ hw _ _ _ S1878.b0 S1878.g0 S1878.sG S1878.gn (rp_mk_list h1881 d1882)
        · have hw := cW_neg c1883 hw
          obtain ⟨g1884, hw⟩ := cW_grd hw
          obtain ⟨v1885, a1886, r1887⟩ := RpAll.ixD (k := 0) d1780 g1884
          obtain ⟨a1888, vs1889, rfl, h1890, d1891⟩ := rp_list r1887
          obtain ⟨g1892, hw⟩ := cW_grd hw
          have r1893 : Rp (hideL [] H) v1771 ((encT2 PyData.int PyData.int) (((cT2 cI cI)).dec (motion'.2.2.1))) := rp_dcast (cT2 cI cI) g1892 r1775
          obtain ⟨a1894, v1896, v1897, rfl, h1895, r1898, r1899⟩ := rp_tup2 r1893
          obtain rfl := rp_int r1898
          obtain rfl := rp_int r1899
          refine ⟨_, rfl, _, _, _, _, rfl, rfl, (SqL.of (S1878.bM _ _ h1779)), a1886, _, rfl, _, rfl, _, _, _, _, rfl, rfl, (SqT.of (S1878.bM _ _ h1768)), rfl, _, rfl, _, rfl, rfl, rfl, G1873, _, _, _, _, _, _, _, _, _, rfl, S1878.sG, (Rp.hide_nil (rp_mk_list (S1878.bM _ _ h1890) (RpAll.mono S1878.bM d1891))), (Rp.hide_nil (rp_mk2 (S1878.bM _ _ h1895) (.int _) (.int _))), (hide_nil (S1878.bM _ _ q_n)), (Rp.hide_nil (rp_mk4 (S1878.bM _ _ h1782) (.int _) (.int _) (.int _) (.int _))), cW_call hw (fun v1900 hw v1903 H1901 G1904 e1902 eG1905 sG1906 hn1907 r1908 => ?_) (fun e he H2 e2 => hE e he H2 (Same.trans S1878.b0 e2))⟩
          have S1909 := S1878.step e1902 eG1905 sG1906 hn1907
          obtain ⟨a1910, vs1911, rfl, h1912, d1913⟩ := rp_list r1908
          refine ⟨(by show 0 ≤ sizeLine; decide), fun p1914 n1915 => ?_⟩
          generalize g1916 : upd H1901 p1914 _ = H1917
          obtain ⟨e1918, h1919⟩ := gen_new n1915 g1916
          have h1920 : H1917 p1914 = some (.lst ([])) := h1919
          have fr1921 := S1909.free n1915
          have S1922 := S1909.new n1915 e1918 h1920 fr1921
          have d1923 : RpAll G1904 ([]) ((([] : (List (List Int))) : (List (List Int))).map (encL PyData.int)) := RpAll.nil
          obtain ⟨g1924, hw⟩ := cW_grd hw
          obtain ⟨K1928, hK1929, hw⟩ := cW_push hw
          refine ⟨_, rfl, _, _, _, rfl, (SqL.of (S1922.sG _ _ h1912)), (by rw [d1913.len, List.length_map]), _, rfl, g1924.1, g1924.2, for_range (lo := 0) (n := Int.toNat ((((v1900) : (List (List Int))).length : Int))) (fun i σ H' => ∃ (rows_1930 : (List (List Int))) (vs1931 : List V) (u1932 : Option V) (G' : Hp), σ = [some (V.ref a_n), some (V.int (kind')), some (V.int (weight')), some (V.ref a1767), some (V.ref a1777), some (V.int (plane')), some (V.ref a1781), some (V.ref a1879), some (V.ref a1910), some (V.ref p1914), u1932, none] ∧ Same G1904 G' ∧ Sep [] H G G' H' [p1914] ∧ H' p1914 = some (.lst (vs1931)) ∧ RpAll G' (vs1931) ((rows_1930 : (List (List Int))).map (encL PyData.int)) ∧ cW (forS (List.drop i (rng (0) (Int.toNat ((((v1900) : (List (List Int))).length : Int))))) rows_1930 (fun s x => F__law_predict_b1 (weight') (v1869) (v1900) s x)) K1928 EE) ?_ ?_ ?_⟩
          · exact ⟨(([] : (List (List Int)))), _, _, _, rfl, (Same.refl _), S1922, h1920, d1923, hw⟩
          · intro i σ H1933 hi hw
            obtain ⟨rows_1930, vs1931, u1932, G1937, rfl, eG1938, S1934, h1935, d1936, hw⟩ := hw
            have hw := cW_forS (rng_get hi) hw
            generalize (0 + (i : Int)) = x1939 at hw ⊢
            have hw : cW (F__law_predict_b1 (weight') (v1869) (v1900) (rows_1930) (x1939)) _ EE := hw
            unfold F__law_predict_b1 at hw
            obtain ⟨K1941, hK1942, hw⟩ := cW_name hw
            obtain ⟨g1944, hw⟩ := cW_grd hw
            obtain ⟨v1945, a1946, r1947⟩ := RpAll.ixD (k := x1939) (RpAll.mono eG1938 d1913) g1944
            obtain ⟨a1948, rfl, h1949⟩ := rp_ints r1947
            obtain ⟨g1950, hw⟩ := cW_grd hw
            obtain ⟨K1956, hK1957, hw⟩ := cW_push hw
            refine ⟨_, rfl, (.inl ⟨rfl, _, SqL.of h1935⟩), _, rfl, _, rfl, _, _, _, _, rfl, rfl, (SqL.of (S1934.sG _ _ (eG1938 _ _ h1912))), a1946, _, _, rfl, (SqL.of (S1934.sG _ _ h1949)), _, rfl, g1950.1, g1950.2, fun D1958 n1959 => lc_range (lo := 0) (n := Int.toNat (((((itD (v1900) (x1939))) : (List Int)).length : Int))) (fun i H' => ∃ (G' : Hp) (acc1961 : (List Int)), Same G1937 G' ∧ Sep [] H G G' H' [D1958, p1914] ∧ H' p1914 = some (.lst (vs1931)) ∧ H' D1958 = some (.lst ((acc1961 : (List Int)).map V.int)) ∧ Same H1933 H' ∧ cW (mapA (List.drop i (rng (0) (Int.toNat (((((itD (v1900) (x1939))) : (List Int)).length : Int))))) acc1961 (fun x => noEr (F__law_predict_c2 (weight') (v1869) (v1900) (x1939) x))) K1956 EE) ?_ ?_ ?_⟩
            · generalize g1963 : upd H1933 D1958 _ = H1964
              obtain ⟨e1965, h1966⟩ := gen_new n1959 g1963
              have fr1967 := S1934.free n1959
              have S1968 := S1934.new n1959 e1965 h1966 fr1967
              have h1969 := (e1965 _ _ h1935)
              exact ⟨_, [], Same.refl _, S1968, h1969, h1966, e1965, hw⟩
            · intro i H1970 hi hw
              obtain ⟨G1973, acc1975, eG1974, S1971, h1982, h1972, eo1981, hw⟩ := hw
              obtain ⟨z1983, hw⟩ := cW_mapA (rng_get hi) hw
              generalize (0 + (i : Int)) = x1984 at hw ⊢
              have hw := cW_noEr hw
              have hw : cW (F__law_predict_c2 (weight') (v1869) (v1900) (x1939) (x1984)) _ (fun _ => False) := hw
              unfold F__law_predict_c2 at hw
              refine ⟨rfl, ?_⟩
              refine tyes_go ?_
              obtain ⟨g1986, hw⟩ := cW_grd hw
              obtain ⟨v1987, a1988, r1989⟩ := RpAll.ixD (k := x1939) (RpAll.mono eG1974 (RpAll.mono eG1938 (RpAll.mono eG1905 d1882))) g1986
              obtain ⟨a1990, rfl, h1991⟩ := rp_ints r1989
              obtain ⟨g1992, hw⟩ := cW_grd hw
              obtain ⟨g1993, hw⟩ := cW_grd hw
              obtain ⟨g1994, hw⟩ := cW_grd hw
              obtain ⟨v1995, a1996, r1997⟩ := RpAll.ixD (k := x1939) (RpAll.mono eG1974 (RpAll.mono eG1938 d1913)) g1994
              obtain ⟨a1998, rfl, h1999⟩ := rp_ints r1997
              obtain ⟨g2000, hw⟩ := cW_grd hw
              obtain ⟨g2001, hw⟩ := cW_grd hw
              refine ⟨_, rfl, _, rfl, _, _, _, _, rfl, rfl, (SqL.of (S1971.sG _ _ (eG1974 _ _ (eG1938 _ _ (eG1905 _ _ h1881))))), a1988, _, rfl, _, _, _, _, rfl, rfl, (SqL.of (S1971.sG _ _ h1991)), (atI_map g1992), _, rfl, _, _, rfl, rfl, g1993, _, rfl, _, rfl, _, _, _, _, rfl, rfl, (SqL.of (S1971.sG _ _ (eG1974 _ _ (eG1938 _ _ h1912)))), a1996, _, rfl, _, _, _, _, rfl, rfl, (SqL.of (S1971.sG _ _ h1999)), (atI_map g2000), _, rfl, _, _, rfl, rfl, _, _, rfl, rfl, g2001, _, _, rfl, rfl, _, _, rfl, rfl, _, _, rfl, rfl, (show (0 : Int) ≤ 4 by decide), _, h1972, (app_lenM z1983), ?_⟩
              generalize g2002 : upd H1970 D1958 _ = H2003
              obtain ⟨x2004, h2005⟩ := gen_mut g2002
              have S2006 := S1971.mut1 x2004 (.head _) h2005
              have hw := cW_ok hw
              have h2007 := (x2004 _ _ h1982 (ne_of_none h1935 n1959))
              exact ⟨_, (acc1975 ++ [(((((itD ((itD (v1869) (x1939))) (x1984)) * weight') + ((itD ((itD (v1900) (x1939))) (x1984)) * (16 - weight'))) + 8) / 16)]), eG1974, S2006, h2007, (snoc_map h2005), (same_mut eo1981 x2004 n1959), hw⟩
            intro H2008 hw
            obtain ⟨G2011, acc2013, eG2012, S2009, h2020, h2010, eo2019, hw⟩ := hw
            have hw := hK1957 _ (cW_mapA0 (rng_len _ _).symm hw)
            have fr2021 := S1934.free n1959
            obtain ⟨g2022, hw⟩ := cW_grd hw
            obtain ⟨G2023, eG2024, hg2025, S2026⟩ := Sep.freeze (O' := [p1914]) S2009 (.head _) h2010 fr2021 ((all_cons ⟨(.tail _ (.head _)), (ne_of_none h1935 n1959)⟩ all_nil))
            refine ⟨_, _, _, rfl, rfl, h2020, (app_len (RpAll.mono eG2024 (RpAll.mono eG2012 d1936)) g2022), ?_⟩
            generalize g2027 : upd H2008 p1914 _ = H2028
            obtain ⟨x2029, h2030⟩ := gen_mut g2027
            have h2031 : H2028 p1914 = some (.lst (vs1931 ++ [V.ref D1958])) := h2030
            have S2032 := S2026.mut1 x2029 (.head _) h2031
            have d2033 : RpAll G2023 (vs1931 ++ [V.ref D1958]) (((rows_1930) ++ [acc2013] : (List (List Int))).map (encL PyData.int)) := app_map (RpAll.mono eG2024 (RpAll.mono eG2012 d1936)) (RpAll.one (rp_mk_ints hg2025))
            have hw := cW_bnd hw
            have hw := cW_ok hw
            have hw := hK1942 _ hw
            exact ⟨((rows_1930) ++ [acc2013]), _, _, _, rfl, (Same.trans (Same.trans eG1938 eG2012) eG2024), S2032, h2031, d2033, hw⟩
          · intro σ H2035 hw
            obtain ⟨rows_1930, vs1931, u1932, G2039, rfl, eG2040, S2036, h2037, d2038, hw⟩ := hw
            have hw := hK1929 _ (cW_forS0 (rng_len _ _).symm hw)
            have hw : cW (F__law_predict_r1  (rows_1930)) _ EE := hw
            unfold F__law_predict_r1 at hw
            refine ⟨_, rfl, ?_⟩
            obtain ⟨G2042, eG2043, hg2044, S2045⟩ := Sep.freeze (O' := []) S2036 (.head _) h2037 fr1921 (all_nil)
            have hw := cW_ok hw
            exact hK0 _ hw _ _ _ S2045.b0 S2045.g0 S2045.sG S2045.gn (rp_mk_list hg2044 (RpAll.mono eG2043 d2038))

abbrev N_clip : List Str := ["value", "low", "high"]
theorem sc_clip : FnScope N_clip ["value", "low", "high"] (defScope s_clip) := ⟨rfl, rfl, rfl, by decide +kernel, rfl, by decide +kernel, by decide +kernel⟩
theorem ok_clip (D : DefX K mg "clip" s_clip ["value", "low", "high"] pats_clip) (T : Txt w K mg AD)  : CalX P w K mg base 1 "clip" (sp_clip K AD) pats_clip := by
  refine D.ok sc_clip (fun vs H Q E h => ?_) (fun f cdv A_ outer s H vs Q E hr h => ?_)
  · obtain ⟨G, value', low', high', rfl, _⟩ := h
    rfl
  · obtain ⟨G, value', low', high', rfl, sG, hw⟩ := h
    refine ⟨_, (pss_one (ps_ret (pe_callB (call_min2 rfl) (by rfl) T.b_min (by decide +kernel) (pa_cons (pe_callB (call_max2 rfl) (by rfl) T.b_max (by decide +kernel) (pa_cons (pv 0) (pa_cons (pv 1) pa_nil))) (pa_cons (pv 2) pa_nil))))), ?_⟩
    obtain ⟨KK, EE, hK0, hE, hw⟩ := cW_gen hw
    have S0 := Sep.startG sG
    unfold F_clip at hw
    refine ⟨_, rfl, _, rfl, _, _, rfl, _, rfl, _, _, rfl, ?_⟩
    have hw := cW_ok hw
    exact hK0 _ hw

abbrev N__samples : List Str := ["plane", "x", "y", "width", "height", "columns", "rows", "column", "row"]
theorem sc__samples : FnScope N__samples ["plane", "x", "y", "width", "height"] (defScope s__samples) := ⟨rfl, rfl, rfl, by decide +kernel, rfl, by decide +kernel, by decide +kernel⟩
theorem ok__samples (D : DefX K mg "_samples" s__samples ["plane", "x", "y", "width", "height"] pats__samples) (T : Txt w K mg AD) (c_clip : CalX P w K mg base 1 "clip" (sp_clip K AD) pats_clip) : CalX P w K mg base 2 "_samples" (sp__samples K AD) pats__samples := by
  refine D.ok sc__samples (fun vs H Q E h => ?_) (fun f cdv A_ outer s H vs Q E hr h => ?_)
  · obtain ⟨G, v_plane, plane', x', y', width', height', rfl, _⟩ := h
    rfl
  · obtain ⟨G, v_plane, plane', x', y', width', height', rfl, sG, r_plane, hw⟩ := h
    refine ⟨_, (pss_cons (ps_set (i := 5) sc__samples.nd rfl (Or.inr rfl) (pe_lc (own := [("column", 7)]) (g := gName 7) (by rfl) sc__samples.nd (pi_range2 rfl T.b_range (pa_cons (pv 1) (pa_cons (pe_op op_add (pv 1) (pv 3)) pa_nil))) (blkOk_by (own := [("column", 7)]) (N := N__samples) (sc := defScope s__samples) (by decide +kernel)) (fun _ _ _ _ _ => (pg_name (i := 7) sc__samples.nd rfl (Or.inl rfl))) (fun _ _ _ _ _ => pts_nil) (fun _ _ _ _ _ => (vx_callX c_clip pat_clip_0 (.head _) hr (by decide) takes0 rfl (pa_cons (pv 7) (pa_cons pe_int (pa_cons (pe_op op_sub (pe_callB (call_lenLiK (K := K)) (by rfl) T.b_len (by decide +kernel) (pa_cons (pe_ix (ix_listK (K := K)) (pv 0) pe_int (fun _ _ => rfl)) pa_nil)) pe_int) pa_nil))) pk_nil))))
      (pss_cons (ps_setLc (i := 6) (y := "rows") rfl sc__samples.nd rfl rfl (sw_true rfl rfl rfl (by decide +kernel)) (own := [("row", 8)]) (g := gName 8) (pi_range2 rfl T.b_range (pa_cons (pv 2) (pa_cons (pe_op op_add (pv 2) (pv 4)) pa_nil))) (blkOk_by (own := [("row", 8)]) (N := N__samples) (sc := defScope s__samples) (by decide +kernel)) (fun _ _ _ _ _ => (pg_name (i := 8) sc__samples.nd rfl (Or.inl rfl))) (fun _ _ _ _ _ => pts_nil) (fun _ _ _ _ _ => (vx_callX c_clip pat_clip_0 (.head _) hr (by decide) takes0 rfl (pa_cons (pv 8) (pa_cons pe_int (pa_cons (pe_op op_sub (pe_callB (call_lenLK (K := K)) (by rfl) T.b_len (by decide +kernel) (pa_cons (pv 0) pa_nil)) pe_int) pa_nil))) pk_nil)))
      (pss_one (ps_ret (pe_lc (own := [("row", 8)]) (g := gName 8) (by rfl) sc__samples.nd (pi_listK (K := K) (pv 6)) (blkOk_by (own := [("row", 8)]) (N := N__samples) (sc := defScope s__samples) (by decide +kernel)) (fun _ _ _ _ _ => (pg_name (i := 8) sc__samples.nd rfl (Or.inr rfl))) (fun _ _ _ _ _ => pts_nil) (fun _ _ _ _ _ => (pe_lc (own := [("column", 7)]) (g := gName 7) (by rfl) sc__samples.nd (pi_listK (K := K) (pv 5)) (blk_relabel (blkOk_by (own := [("column", 7)]) (N := N__samples) (by decide +kernel))) (fun _ _ _ _ _ => (pg_name (i := 7) sc__samples.nd rfl (Or.inl rfl))) (fun _ _ _ _ _ => pts_nil) (fun _ _ _ _ _ => (pe_ix (ix_listK (K := K)) (pe_ix (ix_listK (K := K)) (pv 0) (pv 8) (fun _ _ => rfl)) (pv 7) (fun _ _ => rfl)))))))))), ?_⟩
    obtain ⟨KK, EE, hK0, hE, hw⟩ := cW_gen hw
    have S0 := Sep.startG sG
    unfold F__samples at hw
    obtain ⟨a2046, vs2047, rfl, h2048, d2049⟩ := rp_list r_plane
    obtain ⟨g2050, hw⟩ := cW_grd hw
    obtain ⟨K2053, hK2054, hw⟩ := cW_push hw
    refine ⟨_, rfl, _, rfl, _, rfl, _, _, rfl, rfl, _, _, rfl, g2050, fun D2055 n2056 => lc_range (lo := x') (n := Int.toNat ((x' + width') - x')) (fun i H' => ∃ (G' : Hp) (acc2058 : (List Int)), Same G G' ∧ Sep [] H G G' H' [D2055] ∧ H' D2055 = some (.lst ((acc2058 : (List Int)).map V.int)) ∧ Same H H' ∧ cW (mapA (List.drop i (rng (x') (Int.toNat ((x' + width') - x')))) acc2058 (fun x => noEr (F__samples_c1 (plane') x))) K2053 EE) ?_ ?_ ?_⟩
    · generalize g2060 : upd H D2055 _ = H2061
      obtain ⟨e2062, h2063⟩ := gen_new n2056 g2060
      have fr2064 := S0.free n2056
      have S2065 := S0.new n2056 e2062 h2063 fr2064
      exact ⟨_, [], Same.refl _, S2065, h2063, e2062, hw⟩
    · intro i H2066 hi hw
      obtain ⟨G2069, acc2071, eG2070, S2067, h2068, eo2077, hw⟩ := hw
      obtain ⟨z2078, hw⟩ := cW_mapA (rng_get hi) hw
      generalize (x' + (i : Int)) = x2079 at hw ⊢
      have hw := cW_noEr hw
      have hw : cW (F__samples_c1 (plane') (x2079)) _ (fun _ => False) := hw
      unfold F__samples_c1 at hw
      refine ⟨rfl, ?_⟩
      refine tyes_go ?_
      obtain ⟨g2081, hw⟩ := cW_grd hw
      obtain ⟨v2082, a2083, r2084⟩ := RpAll.ixD (k := 0) d2049 g2081
      obtain ⟨a2085, rfl, h2086⟩ := rp_ints r2084
      refine ⟨_, rfl, _, rfl, _, _, _, _, rfl, rfl, (SqL.of (S2067.bM _ _ h2048)), a2083, _, _, rfl, (SqL.of (S2067.bM _ _ h2086)), _, _, rfl, rfl, rfl, rfl, G2069, _, _, _, rfl, S2067.sG, cW_call hw (fun v2087 hw => ?_) (fun e he => he.elim)⟩
      refine ⟨_, h2068, (app_lenM z2078), ?_⟩
      generalize g2088 : upd H2066 D2055 _ = H2089
      obtain ⟨x2090, h2091⟩ := gen_mut g2088
      have S2092 := S2067.mut1 x2090 (.head _) h2091
      have hw := cW_ok hw
      exact ⟨_, (acc2071 ++ [v2087]), eG2070, S2092, (snoc_map h2091), (same_mut eo2077 x2090 n2056), hw⟩
    intro H2093 hw
    obtain ⟨G2096, acc2098, eG2097, S2094, h2095, eo2104, hw⟩ := hw
    have hw := hK2054 _ (cW_mapA0 (rng_len _ _).symm hw)
    have fr2105 := S0.free n2056
    obtain ⟨g2106, hw⟩ := cW_grd hw
    obtain ⟨K2109, hK2110, hw⟩ := cW_push hw
    refine ⟨_, rfl, _, rfl, _, rfl, _, _, rfl, rfl, _, _, rfl, g2106, fun D2111 n2112 => lc_range (lo := y') (n := Int.toNat ((y' + height') - y')) (fun i H' => ∃ (G' : Hp) (acc2114 : (List Int)), Same G2096 G' ∧ Sep [] H G G' H' [D2111, D2055] ∧ H' D2055 = some (.lst ((acc2098 : (List Int)).map V.int)) ∧ H' D2111 = some (.lst ((acc2114 : (List Int)).map V.int)) ∧ Same H2093 H' ∧ cW (mapA (List.drop i (rng (y') (Int.toNat ((y' + height') - y')))) acc2114 (fun x => noEr (F__samples_c2 (plane') x))) K2109 EE) ?_ ?_ ?_⟩
    · generalize g2116 : upd H2093 D2111 _ = H2117
      obtain ⟨e2118, h2119⟩ := gen_new n2112 g2116
      have fr2120 := S2094.free n2112
      have S2121 := S2094.new n2112 e2118 h2119 fr2120
      have h2122 := (e2118 _ _ h2095)
      exact ⟨_, [], Same.refl _, S2121, h2122, h2119, e2118, hw⟩
    · intro i H2123 hi hw
      obtain ⟨G2126, acc2128, eG2127, S2124, h2135, h2125, eo2134, hw⟩ := hw
      obtain ⟨z2136, hw⟩ := cW_mapA (rng_get hi) hw
      generalize (y' + (i : Int)) = x2137 at hw ⊢
      have hw := cW_noEr hw
      have hw : cW (F__samples_c2 (plane') (x2137)) _ (fun _ => False) := hw
      unfold F__samples_c2 at hw
      refine ⟨rfl, ?_⟩
      refine tyes_go ?_
      refine ⟨_, rfl, _, rfl, _, _, _, rfl, (SqL.of (S2124.bM _ _ h2048)), (by rw [d2049.len, List.length_map]), _, _, rfl, rfl, rfl, rfl, G2126, _, _, _, rfl, S2124.sG, cW_call hw (fun v2139 hw => ?_) (fun e he => he.elim)⟩
      refine ⟨_, h2125, (app_lenM z2136), ?_⟩
      generalize g2140 : upd H2123 D2111 _ = H2141
      obtain ⟨x2142, h2143⟩ := gen_mut g2140
      have S2144 := S2124.mut1 x2142 (.head _) h2143
      have hw := cW_ok hw
      have h2145 := (x2142 _ _ h2135 (ne_of_none h2095 n2112))
      exact ⟨_, (acc2128 ++ [v2139]), eG2127, S2144, h2145, (snoc_map h2143), (same_mut eo2134 x2142 n2112), hw⟩
    intro H2146 hw
    obtain ⟨G2149, acc2151, eG2150, S2147, h2158, h2148, eo2157, hw⟩ := hw
    have hw := hK2110 _ (cW_mapA0 (rng_len _ _).symm hw)
    have fr2159 := S2094.free n2112
    obtain ⟨K2163, hK2164, hw⟩ := cW_push hw
    refine ⟨_, rfl, _, rfl, ⟨_, (SqL.of h2148)⟩, fun D2165 n2166 => lc_list (K := K) (a := D2111) (xs := (acc2151 : (List Int)).map V.int) (fun i H' => ∃ (G' : Hp) (acc2168 : (List (List Int))) (vs2169 : List V) (L2167 : List Addr), Same G2149 G' ∧ Sep [] H G G' H' (D2165 :: (L2167 ++ (D2055 :: (D2111 :: [])))) ∧ H' D2055 = some (.lst ((acc2098 : (List Int)).map V.int)) ∧ H' D2111 = some (.lst ((acc2151 : (List Int)).map V.int)) ∧ H' D2165 = some (.lst vs2169) ∧ OwAll G' H' L2167 vs2169 ((acc2168 : (List (List Int))).map (oL oI)) ∧ (∀ b ∈ L2167, H2146 b = none) ∧ (∀ b ∈ L2167, b ≠ D2165) ∧ Same H2146 H' ∧ cW (mapA (List.drop i (acc2151)) acc2168 (fun x => noEr (F__samples_c3 (plane') (acc2098) x))) K2163 EE) ?_ ?_ ?_ ?_⟩
    · generalize g2170 : upd H2146 D2165 _ = H2171
      obtain ⟨e2172, h2173⟩ := gen_new n2166 g2170
      have fr2174 := S2147.free n2166
      have S2175 := S2147.new n2166 e2172 h2173 fr2174
      have h2176 := (e2172 _ _ h2158)
      have h2177 := (e2172 _ _ h2148)
      exact ⟨_, [], [], [], Same.refl _, (S2175.sub (all_cons (.head _) (all_app (L := []) all_nil (all_cons (.tail _ (.tail _ (.head _))) (all_cons (.tail _ (.head _)) all_nil))))), h2176, h2177, h2173, OwAll.nil, all_nil, all_nil, e2172, hw⟩
    · intro i H2178 _ hw
      obtain ⟨G2181, acc2183, vs2184, L2186, eG2182, S2179, h2190, h2191, h2180, d2185, nb2187, nd2188, eo2189, hw⟩ := hw
      exact (SqL.of h2191)
    · intro i x H2192 hj hw
      obtain ⟨G2195, acc2197, vs2198, L2200, eG2196, S2193, h2204, h2205, h2194, d2199, nb2201, nd2202, eo2203, hw⟩ := hw
      obtain ⟨x2206, hx, rfl⟩ := map_get hj
      obtain ⟨z2207, hw⟩ := cW_mapA hx hw
      have hw := cW_noEr hw
      have hw : cW (F__samples_c3 (plane') (acc2098) (x2206)) _ (fun _ => False) := hw
      unfold F__samples_c3 at hw
      refine ⟨rfl, ?_⟩
      refine tyes_go ?_
      obtain ⟨K2212, hK2213, hw⟩ := cW_push hw
      refine ⟨_, rfl, _, rfl, ⟨_, (SqL.of h2204)⟩, fun D2214 n2215 => lc_list (K := K) (a := D2055) (xs := (acc2098 : (List Int)).map V.int) (fun i2 H' => ∃ (G' : Hp) (acc2217 : (List Int)), Same G2195 G' ∧ Sep [] H G G' H' (D2214 :: (D2165 :: (D2055 :: (D2111 :: (L2200 ++ []))))) ∧ H' D2165 = some (.lst (vs2198)) ∧ H' D2055 = some (.lst ((acc2098 : (List Int)).map V.int)) ∧ H' D2111 = some (.lst ((acc2151 : (List Int)).map V.int)) ∧ H' D2214 = some (.lst ((acc2217 : (List Int)).map V.int)) ∧ OwAll G' H' L2200 (vs2198) ((acc2197 : (List (List Int))).map (oL oI)) ∧ Same H2192 H' ∧ cW (mapA (List.drop i2 (acc2098)) acc2217 (fun x => noEr (F__samples_c4 (plane') (x2206) x))) K2212 (fun _ => False)) ?_ ?_ ?_ ?_⟩
      · generalize g2219 : upd H2192 D2214 _ = H2220
        obtain ⟨e2221, h2222⟩ := gen_new n2215 g2219
        have fr2223 := S2193.free n2215
        have S2224 := S2193.new n2215 e2221 h2222 fr2223
        have h2225 := (e2221 _ _ h2194)
        have h2226 := (e2221 _ _ h2204)
        have h2227 := (e2221 _ _ h2205)
        have w2228 : OwAll G2195 H2220 L2200 (vs2198) ((acc2197 : (List (List Int))).map (oL oI)) := (OwAll.mono (Same.refl _) (keeps_same e2221) d2199)
        exact ⟨_, [], Same.refl _, (S2224.sub (all_cons (.head _) (all_cons (.tail _ (.head _)) (all_cons (.tail _ (.tail _ (List.mem_append_right _ (.head _)))) (all_cons (.tail _ (.tail _ (List.mem_append_right _ (.tail _ (.head _))))) (all_app ((fun b hb => (.tail _ (.tail _ (List.mem_append_left _ hb)))) : ∀ b ∈ L2200, b ∈ (D2214 :: (D2165 :: (L2200 ++ (D2055 :: (D2111 :: [])))))) all_nil)))))), h2225, h2226, h2227, h2222, w2228, e2221, hw⟩
      · intro i2 H2229 _ hw
        obtain ⟨G2232, acc2234, eG2233, S2230, h2241, h2242, h2243, h2231, w2244, eo2240, hw⟩ := hw
        exact (SqL.of h2242)
      · intro i2 x H2245 hj hw
        obtain ⟨G2248, acc2250, eG2249, S2246, h2257, h2258, h2259, h2247, w2260, eo2256, hw⟩ := hw
        obtain ⟨x2261, hx, rfl⟩ := map_get hj
        obtain ⟨z2262, hw⟩ := cW_mapA hx hw
        have hw := cW_noEr hw
        have hw : cW (F__samples_c4 (plane') (x2206) (x2261)) _ (fun _ => False) := hw
        unfold F__samples_c4 at hw
        refine ⟨rfl, ?_⟩
        refine tyes_go ?_
        obtain ⟨g2264, hw⟩ := cW_grd hw
        obtain ⟨v2265, a2266, r2267⟩ := RpAll.ixD (k := x2206) d2049 g2264
        obtain ⟨a2268, rfl, h2269⟩ := rp_ints r2267
        obtain ⟨g2270, hw⟩ := cW_grd hw
        refine ⟨_, rfl, _, rfl, _, _, _, _, rfl, rfl, (SqL.of (S2246.bM _ _ h2048)), a2266, _, rfl, _, _, _, _, rfl, rfl, (SqL.of (S2246.bM _ _ h2269)), (atI_map g2270), _, h2247, (app_lenM z2262), ?_⟩
        generalize g2271 : upd H2245 D2214 _ = H2272
        obtain ⟨x2273, h2274⟩ := gen_mut g2271
        have S2275 := S2246.mut1 x2273 (.head _) h2274
        have hw := cW_ok hw
        have h2276 := (x2273 _ _ h2257 (ne_of_none h2194 n2215))
        have h2277 := (x2273 _ _ h2258 (ne_of_none h2204 n2215))
        have h2278 := (x2273 _ _ h2259 (ne_of_none h2205 n2215))
        have w2279 : OwAll G2248 H2272 L2200 (vs2198) ((acc2197 : (List (List Int))).map (oL oI)) := (OwAll.mono (Same.refl _) (keeps_mut x2273 ((there_ne (fun b_ hb_ => (S2193.ow b_ (((fun b hb => (.tail _ (List.mem_append_left _ hb))) : ∀ b ∈ L2200, b ∈ (D2165 :: (L2200 ++ (D2055 :: (D2111 :: []))))) b_ hb_)).2.1) n2215) : ∀ b ∈ L2200, b ≠ D2214)) w2260)
        exact ⟨_, (acc2250 ++ [(itD ((itD (plane') (x2206))) (x2261))]), eG2249, S2275, h2276, h2277, h2278, (snoc_map h2274), w2279, (same_mut eo2256 x2273 n2215), hw⟩
      intro H2280 hw
      obtain ⟨G2283, acc2285, eG2284, S2281, h2292, h2293, h2294, h2282, w2295, eo2291, hw⟩ := hw
      have hw := hK2213 _ (cW_mapA0 (by rw [List.length_map]) hw)
      have fr2296 := S2193.free n2215
      refine ⟨_, h2292, (app_len (OwAll.rpA w2295 (encO_L encO_I) S2281.sG) z2207), ?_⟩
      generalize g2297 : upd H2280 D2165 _ = H2298
      obtain ⟨x2299, h2300⟩ := gen_mut g2297
      have S2301 := S2281.mut1 x2299 (.tail _ (.head _)) h2300
      have hw := cW_ok hw
      have h2302 := (x2299 _ _ h2293 (ne_of_none h2158 n2166))
      have h2303 := (x2299 _ _ h2294 (ne_of_none h2148 n2166))
      exact ⟨_, (acc2197 ++ [acc2285]), _, (L2200 ++ (D2214 :: ([] : List Addr))), (Same.trans eG2196 eG2284), (S2301.sub (all_cons (.tail _ (.head _)) (all_app (all_app ((fun b hb => (.tail _ (.tail _ (.tail _ (.tail _ (List.mem_append_left _ hb)))))) : ∀ b ∈ L2200, b ∈ (D2214 :: (D2165 :: (D2055 :: (D2111 :: (L2200 ++ [])))))) (all_cons (.head _) all_nil)) (all_cons (.tail _ (.tail _ (.head _))) (all_cons (.tail _ (.tail _ (.tail _ (.head _)))) all_nil))))), h2302, h2303, h2300, (OwAll.mono (Same.refl _) (keeps_mut x2299 ((all_app nd2202 (all_cons (ne_of_none h2194 n2215).symm all_nil)) : ∀ b ∈ (L2200 ++ (D2214 :: ([] : List Addr))), b ≠ D2165)) (OwAll.snocM w2295 (Ow.ints h2282) ((fun b hb => (nm_cons ((there_ne (fun b_ hb_ => (S2193.ow b_ (((fun b hb => (.tail _ (List.mem_append_left _ hb))) : ∀ b ∈ L2200, b ∈ (D2165 :: (L2200 ++ (D2055 :: (D2111 :: []))))) b_ hb_)).2.1) n2215) b hb) nm_nil)) : ∀ b ∈ L2200, b ∉ (D2214 :: ([] : List Addr))))), ((all_app nb2201 (all_cons (none_of_same eo2203 n2215) all_nil)) : ∀ b ∈ (L2200 ++ (D2214 :: ([] : List Addr))), H2146 b = none), ((all_app nd2202 (all_cons (ne_of_none h2194 n2215).symm all_nil)) : ∀ b ∈ (L2200 ++ (D2214 :: ([] : List Addr))), b ≠ D2165), (same_mut (Same.trans eo2203 eo2291) x2299 n2166), hw⟩
    intro H2304 hw
    obtain ⟨G2307, acc2309, vs2310, L2312, eG2308, S2305, h2316, h2317, h2306, d2311, nb2313, nd2314, eo2315, hw⟩ := hw
    have hw := hK2164 _ (cW_mapA0 (by rw [List.length_map]) hw)
    have fr2318 := S2147.free n2166
    have hw := cW_ok hw
    exact hK0 _ hw _ _ _ _ _ fr2318 ((fun b hb => Sep.h0 S2305 (((fun b hb => (.tail _ (List.mem_append_left _ hb))) : ∀ b ∈ L2312, b ∈ (D2165 :: (L2312 ++ (D2055 :: (D2111 :: []))))) b hb) nm_nil) : ∀ b ∈ L2312, H b = none) (nd2314 : ∀ b ∈ L2312, b ≠ D2165) S2305.b0 S2305.g0 S2305.sG S2305.gn (S2305.ow _ (.head _)).1 ((fun b hb => (S2305.ow b (((fun b hb => (.tail _ (List.mem_append_left _ hb))) : ∀ b ∈ L2312, b ∈ (D2165 :: (L2312 ++ (D2055 :: (D2111 :: []))))) b hb)).1) : ∀ b ∈ L2312, G2307 b = none) h2306 d2311

abbrev N__weighted : List Str := ["weights", "lines", "p", "q", "r", "s", "t", "u", "a", "b", "c", "d", "e", "f"]
theorem sc__weighted : FnScope N__weighted ["weights", "lines"] (defScope s__weighted) := ⟨rfl, rfl, rfl, by decide +kernel, rfl, by decide +kernel, by decide +kernel⟩
theorem ok__weighted (D : DefX K mg "_weighted" s__weighted ["weights", "lines"] pats__weighted) (T : Txt w K mg AD)  : CalX P w K mg base 1 "_weighted" (sp__weighted K AD) pats__weighted := by
  refine D.ok sc__weighted (fun vs H Q E h => ?_) (fun f cdv A_ outer s H vs Q E hr h => ?_)
  · obtain ⟨G, a_weights, weights', v_lines, lines', rfl, _⟩ := h
    rfl
  · obtain ⟨G, a_weights, weights', v_lines, lines', rfl, sG, q_weights, r_lines, hw⟩ := h
    refine ⟨_, (C8.pss_cut (ps_asg (pv 0) (pg_tupK (K := K) (n := 6) (pgs_cons (pg_name (i := 2) sc__weighted.nd rfl (Or.inr rfl)) (pgs_cons (pg_name (i := 3) sc__weighted.nd rfl (Or.inr rfl)) (pgs_cons (pg_name (i := 4) sc__weighted.nd rfl (Or.inr rfl)) (pgs_cons (pg_name (i := 5) sc__weighted.nd rfl (Or.inr rfl)) (pgs_cons (pg_name (i := 6) sc__weighted.nd rfl (Or.inr rfl)) (pgs_cons (pg_name (i := 7) sc__weighted.nd rfl (Or.inr rfl)) pgs_nil))))))))
      (pss_one (ps_ret (pe_lc (own := [("a", 8), ("b", 9), ("c", 10), ("d", 11), ("e", 12), ("f", 13)]) (g := gTup K 6 (gCons (gName 8) (gCons (gName 9) (gCons (gName 10) (gCons (gName 11) (gCons (gName 12) (gCons (gName 13) gNil))))))) (by rfl) sc__weighted.nd (Vz.pi_zipN (K := K) rfl T.b_zip (pv 1)) (blkOk_by (own := [("a", 8), ("b", 9), ("c", 10), ("d", 11), ("e", 12), ("f", 13)]) (N := N__weighted) (sc := defScope s__weighted) (by decide +kernel)) (fun _ _ _ _ _ => (pg_tupK (K := K) (n := 6) (pgs_cons (pg_name (i := 8) sc__weighted.nd rfl (Or.inl rfl)) (pgs_cons (pg_name (i := 9) sc__weighted.nd rfl (Or.inl rfl)) (pgs_cons (pg_name (i := 10) sc__weighted.nd rfl (Or.inl rfl)) (pgs_cons (pg_name (i := 11) sc__weighted.nd rfl (Or.inl rfl)) (pgs_cons (pg_name (i := 12) sc__weighted.nd rfl (Or.inl rfl)) (pgs_cons (pg_name (i := 13) sc__weighted.nd rfl (Or.inl rfl)) pgs_nil)))))))) (fun _ _ _ _ _ => pts_nil) (fun _ _ _ _ _ => (pe_op op_add (pe_op op_add (pe_op op_add (pe_op op_add (pe_op op_add (pe_op op_mul (pv 2) (pv 8)) (pe_op op_mul (pv 3) (pv 9))) (pe_op op_mul (pv 4) (pv 10))) (pe_op op_mul (pv 5) (pv 11))) (pe_op op_mul (pv 6) (pv 12))) (pe_op op_mul (pv 7) (pv 13)))))))), ?_⟩
    obtain ⟨KK, EE, hK0, hE, hw⟩ := cW_gen hw
    have S0 := Sep.startG sG
    unfold F__weighted at hw
    obtain ⟨a2319, vs2320, rfl, h2321, d2322⟩ := rp_list r_lines
    refine ⟨fun σ H' => ∃ (p_2330 : Int) (q_2331 : Int) (r_2332 : Int) (s_2333 : Int) (t_2334 : Int) (u_2335 : Int) (G' : Hp), σ = [some (V.ref a_weights), some (V.ref a2319), some (V.int p_2330), some (V.int q_2331), some (V.int r_2332), some (V.int s_2333), some (V.int t_2334), some (V.int u_2335), none, none, none, none, none, none] ∧ Same G G' ∧ Sep [] H G G' H' [] ∧ cW (F__weighted_k1 (lines') p_2330 q_2331 r_2332 s_2333 t_2334 u_2335) KK EE, ?_, ?_⟩
    · obtain ⟨K2336, hK2337, hw⟩ := cW_push hw
      obtain ⟨g2338, hw⟩ := cW_grd hw
      refine ⟨_, rfl, _, [V.int ((itD (weights') 0)), V.int ((itD (weights') 1)), V.int ((itD (weights') 2)), V.int ((itD (weights') 3)), V.int ((itD (weights') 4)), V.int ((itD (weights') 5))], rfl, (SqT.cast (q_weights _) (unp6 g2338)), rfl, _, _, rfl, _, _, rfl, _, _, rfl, _, _, rfl, _, _, rfl, _, _, rfl, rfl, ?_⟩
      have hw := cW_bnd hw
      have hw := cW_bnd hw
      have hw := cW_bnd hw
      have hw := cW_bnd hw
      have hw := cW_bnd hw
      have hw := cW_bnd hw
      have hw := cW_ok hw
      have hw := hK2337 _ hw
      exact ⟨((itD (weights') 0)), ((itD (weights') 1)), ((itD (weights') 2)), ((itD (weights') 3)), ((itD (weights') 4)), ((itD (weights') 5)), _, rfl, (Same.refl _), S0, hw⟩
    · intro σ H2345 hw
      obtain ⟨p_2330, q_2331, r_2332, s_2333, t_2334, u_2335, G2347, rfl, eG2348, S2346, hw⟩ := hw
      unfold F__weighted_k1 at hw
      obtain ⟨g2349, hw⟩ := cW_grd hw
      obtain ⟨ls2350, els2351, rws2352⟩ := rows_rp (K := K) S2346.bM d2322
      obtain ⟨K2360, hK2361, hw⟩ := cW_push hw
      refine ⟨_, rfl, _, ls2350, rfl, (SqL.cast (SqL.of (S2346.bM _ _ h2321)) els2351), (by rw [rws2352.1]; exact g2349), rws2352.all, fun D2362 n2363 => lc_zipN (K := K) (ls := ls2350) (xss := lines') (ne_of_len g2349) (fun i H' => ∃ (G' : Hp) (acc2365 : (List Int)), Same G2347 G' ∧ Sep [] H G G' H' [D2362] ∧ H' D2362 = some (.lst ((acc2365 : (List Int)).map V.int)) ∧ Same H2345 H' ∧ cW (mapA (List.drop i (zipRows (lines'))) acc2365 (fun x => noEr (F__weighted_c2 (p_2330) (q_2331) (r_2332) (s_2333) (t_2334) (u_2335) x))) K2360 EE) ?_ ?_ ?_ ?_⟩
      · generalize g2367 : upd H2345 D2362 _ = H2368
        obtain ⟨e2369, h2370⟩ := gen_new n2363 g2367
        have fr2371 := S2346.free n2363
        have S2372 := S2346.new n2363 e2369 h2370 fr2371
        exact ⟨_, [], Same.refl _, S2372, h2370, e2369, hw⟩
      · intro i H2373 _ hw
        obtain ⟨G2376, acc2378, eG2377, S2374, h2375, eo2384, hw⟩ := hw
        exact RowsAt.again els2351 (rows_rp (K := K) S2374.bM d2322)
      · intro i T_ H2385 hi n2386 hw
        obtain ⟨G2389, acc2391, eG2390, S2387, h2388, eo2397, hw⟩ := hw
        generalize g2398 : upd H2385 T_ _ = H2399
        obtain ⟨e2400, h2401⟩ := gen_new n2386 g2398
        have h2402 : H2399 T_ = some (.tup ((colOf (lines') i).map V.int)) := h2401
        have fr2403 := S2387.free n2386
        obtain ⟨G2405, eG2406, hg2407, S2404⟩ := S2387.grow n2386 e2400 h2402 fr2403
        obtain ⟨z2408, hw⟩ := cW_mapA (zipRows_get hi) hw
        have hw := cW_noEr hw
        have hw : cW (F__weighted_c2 (p_2330) (q_2331) (r_2332) (s_2333) (t_2334) (u_2335) ((colOf (lines') i))) _ (fun _ => False) := hw
        unfold F__weighted_c2 at hw
        obtain ⟨g2410, hw⟩ := cW_grd hw
        refine ⟨_, [V.int ((itD ((colOf (lines') i)) 0)), V.int ((itD ((colOf (lines') i)) 1)), V.int ((itD ((colOf (lines') i)) 2)), V.int ((itD ((colOf (lines') i)) 3)), V.int ((itD ((colOf (lines') i)) 4)), V.int ((itD ((colOf (lines') i)) 5))], rfl, (SqT.cast (SqT.of (S2404.sG _ _ hg2407)) (unp6 g2410)), rfl, _, _, rfl, _, _, rfl, _, _, rfl, _, _, rfl, _, _, rfl, _, _, rfl, rfl, ((wipe_set (by decide)).trans ((wipe_set (by decide)).trans ((wipe_set (by decide)).trans ((wipe_set (by decide)).trans ((wipe_set (by decide)).trans ((wipe_set (by decide)).trans wipe_wipe)))))), ?_⟩
        refine tyes_go ?_
        obtain ⟨g2411, hw⟩ := cW_grd hw
        obtain ⟨g2412, hw⟩ := cW_grd hw
        obtain ⟨g2413, hw⟩ := cW_grd hw
        obtain ⟨g2414, hw⟩ := cW_grd hw
        obtain ⟨g2415, hw⟩ := cW_grd hw
        obtain ⟨g2416, hw⟩ := cW_grd hw
        have h2417 := (e2400 _ _ h2388)
        refine ⟨_, rfl, _, rfl, _, _, rfl, rfl, g2411, _, rfl, _, rfl, _, _, rfl, rfl, g2412, _, _, rfl, rfl, _, rfl, _, rfl, _, _, rfl, rfl, g2413, _, _, rfl, rfl, _, rfl, _, rfl, _, _, rfl, rfl, g2414, _, _, rfl, rfl, _, rfl, _, rfl, _, _, rfl, rfl, g2415, _, _, rfl, rfl, _, rfl, _, rfl, _, _, rfl, rfl, g2416, _, _, rfl, rfl, _, h2417, (app_lenM z2408), ?_⟩
        generalize g2418 : upd H2399 D2362 _ = H2419
        obtain ⟨x2420, h2421⟩ := gen_mut g2418
        have S2422 := S2404.mut1 x2420 (.head _) h2421
        have hw := cW_ok hw
        exact ⟨_, (acc2391 ++ [((((((p_2330 * (itD ((colOf (lines') i)) 0)) + (q_2331 * (itD ((colOf (lines') i)) 1))) + (r_2332 * (itD ((colOf (lines') i)) 2))) + (s_2333 * (itD ((colOf (lines') i)) 3))) + (t_2334 * (itD ((colOf (lines') i)) 4))) + (u_2335 * (itD ((colOf (lines') i)) 5)))]), (Same.trans eG2390 eG2406), S2422, (snoc_map h2421), (same_mut (Same.trans eo2397 e2400) x2420 n2363), hw⟩
      intro H2423 hw
      obtain ⟨G2426, acc2428, eG2427, S2424, h2425, eo2434, hw⟩ := hw
      have hw := hK2361 _ (cW_mapA0 (zipRows_len _).symm hw)
      have fr2435 := S2346.free n2363
      have hw := cW_ok hw
      exact hK0 _ hw _ _ fr2435 S2424.b0 h2425

abbrev N_quarter_area : List Str := ["plane", "x", "y", "width", "height", "top", "f", "g", "sums", "row", "s", "t", "value"]
theorem sc_quarter_area : FnScope N_quarter_area ["plane", "x", "y", "width", "height", "top"] (defScope s_quarter_area) := ⟨rfl, rfl, rfl, by decide +kernel, rfl, by decide +kernel, by decide +kernel⟩
theorem ok_quarter_area (D : DefX K mg "quarter_area" s_quarter_area ["plane", "x", "y", "width", "height", "top"] pats_quarter_area) (T : Txt w K mg AD) (c__samples : CalX P w K mg base 2 "_samples" (sp__samples K AD) pats__samples) (c__weighted : CalX P w K mg base 1 "_weighted" (sp__weighted K AD) pats__weighted) (c_clip : CalX P w K mg base 1 "clip" (sp_clip K AD) pats_clip) : CalX P w K mg base 3 "quarter_area" (sp_quarter_area K AD) pats_quarter_area := by
  refine D.ok sc_quarter_area (fun vs H Q E h => ?_) (fun f cdv A_ outer s H vs Q E hr h => ?_)
  · obtain ⟨G, v_plane, plane', x', y', width', height', top', rfl, _⟩ := h
    rfl
  · obtain ⟨G, v_plane, plane', x', y', width', height', top', rfl, sG, r_plane, hw⟩ := h
    refine ⟨_, (pss_cons (ps_set (i := 6) sc_quarter_area.nd rfl (Or.inl rfl) (pe_op op_and (pv 1) pe_int))
      (pss_cons (ps_set (i := 7) sc_quarter_area.nd rfl (Or.inr rfl) (pe_op op_and (pv 2) pe_int))
      (pss_cons (ps_if (PW.pt (pw_and (pt_cmp (pc_eqI (pv 6) pe_int)) (pw_and1 (pt_cmp (pc_eqI (pv 7) pe_int))))) (pss_one (ps_ret (vx_callX c__samples pat__samples_0 (.head _) hr (by decide) (takes_of rfl rfl rfl rfl) rfl (pa_cons (pv 0) (pa_cons (pe_op op_shr (pv 1) pe_int) (pa_cons (pe_op op_shr (pv 2) pe_int) (pa_cons (pv 3) (pa_cons (pv 4) pa_nil))))) pk_nil))) pss_nil)
      (pss_cons (ps_set (i := 8) sc_quarter_area.nd rfl (Or.inr rfl) (pe_lst pa_nil))
      (pss_cons (ps_for (passes_of rfl) rfl (pi_listK (K := K) (vx_callX c__samples pat__samples_0 (.head _) hr (by decide) (takes_of rfl rfl rfl rfl) rfl (pa_cons (pv 0) (pa_cons (pe_op op_sub (pe_op op_shr (pv 1) pe_int) pe_int) (pa_cons (pe_op op_sub (pe_op op_shr (pv 2) pe_int) pe_int) (pa_cons (pe_op op_add (pv 3) pe_int) (pa_cons (pe_op op_add (pv 4) pe_int) pa_nil))))) pk_nil)) (pg_name (i := 9) sc_quarter_area.nd rfl (Or.inr rfl)) (pss_one (ps_expr (pe_bm PySem.F.plainAttrs_list PySem.F.slot_list_append PySem.F.type_list_append mt_append (pv 8) (pa_cons (vx_callX c__weighted pat__weighted_0 (.head _) hr (by decide) (takes_of rfl rfl rfl rfl) rfl (pa_cons (pe_ix (ix_tupK (K := K)) (C8.pe_gc (v := V.ref AD.t_WEIGHTS) rfl T.g_WEIGHTS) (pv 6) (fun _ _ => rfl)) (pa_cons (pe_lc (own := [("s", 10)]) (g := gName 10) (by rfl) sc_quarter_area.nd (pi_range1 rfl T.b_range (pa_cons pe_int pa_nil)) (blkOk_by (own := [("s", 10)]) (N := N_quarter_area) (sc := defScope s_quarter_area) (by decide +kernel)) (fun _ _ _ _ _ => (pg_name (i := 10) sc_quarter_area.nd rfl (Or.inl rfl))) (fun _ _ _ _ _ => pts_nil) (fun _ _ _ _ _ => (pe_slice (sl_listK (K := K)) (pv 9) (po_some (pv 10)) (po_some (pe_op op_add (pv 10) (pv 3)))))) pa_nil)) pk_nil) pa_nil)))))
      (pss_one (ps_ret (pe_lc (own := [("t", 11)]) (g := gName 11) (by rfl) sc_quarter_area.nd (pi_range1 rfl T.b_range (pa_cons (pv 4) pa_nil)) (blkOk_by (own := [("t", 11)]) (N := N_quarter_area) (sc := defScope s_quarter_area) (by decide +kernel)) (fun _ _ _ _ _ => (pg_name (i := 11) sc_quarter_area.nd rfl (Or.inl rfl))) (fun _ _ _ _ _ => pts_nil) (fun _ _ _ _ _ => (pe_lc (own := [("value", 12)]) (g := gName 12) (by rfl) sc_quarter_area.nd (pi_listK (K := K) (vx_callX c__weighted pat__weighted_0 (.head _) hr (by decide) takes0 rfl (pa_cons (pe_ix (ix_tupK (K := K)) (C8.pe_gc (v := V.ref AD.t_WEIGHTS) rfl T.g_WEIGHTS) (pv 7) (fun _ _ => rfl)) (pa_cons (pe_slice (sl_listK (K := K)) (pv 8) (po_some (pv 11)) (po_some (pe_op op_add (pv 11) pe_int))) pa_nil)) pk_nil)) (blk_relabel (blkOk_by (own := [("value", 12)]) (N := N_quarter_area) (by decide +kernel))) (fun _ _ _ _ _ => (pg_name (i := 12) sc_quarter_area.nd rfl (Or.inl rfl))) (fun _ _ _ _ _ => pts_nil) (fun _ _ _ _ _ => (vx_callX c_clip pat_clip_0 (.head _) hr (by decide) takes0 rfl (pa_cons (pe_op op_shr (pe_op op_add (pv 12) pe_int) pe_int) (pa_cons pe_int (pa_cons (pv 5) pa_nil))) pk_nil)))))))))))), ?_⟩
    obtain ⟨KK, EE, hK0, hE, hw⟩ := cW_gen hw
    have S0 := Sep.startG sG
    unfold F_quarter_area at hw
    obtain ⟨a2436, vs2437, rfl, h2438, d2439⟩ := rp_list r_plane
    refine ⟨_, rfl, _, _, rfl, rfl, ?_⟩
    have hw := cW_bnd hw
    refine ⟨_, rfl, _, _, rfl, rfl, ?_⟩
    have hw := cW_bnd hw
    refine ⟨_, rfl, _, _, rfl, rfl, _, rfl, ?_⟩
    refine iteD (fun c2442 => ?_) (fun c2442 => ?_)
    · have hw := cW_pos c2442 hw
      refine ⟨_, rfl, _, _, rfl, rfl, _, rfl, ?_⟩
      refine iteD (fun c2443 => ?_) (fun c2443 => ?_)
      · have hw := cW_pos c2443 hw
        refine ⟨_, rfl, _, rfl, _, _, rfl, rfl, (show (0 : Int) ≤ 2 by decide), _, rfl, _, _, rfl, rfl, (show (0 : Int) ≤ 2 by decide), _, rfl, _, rfl, rfl, rfl, G, _, _, _, _, _, _, rfl, S0.sG, (Rp.hide_nil (rp_mk_list (S0.bM _ _ h2438) (RpAll.mono S0.bM d2439))), cW_call hw (fun v2444 hw H2445 a2447 vs2448 L2449 G2450 n2451 nb2452 nd2453 e2446 eG2454 sG2455 hn2456 ga2457 gL2458 h2459 w2460 => ?_) (fun e he H2 e2 => hE e he H2 (Same.trans S0.b0 e2))⟩
        have fr2461 := S0.free n2451
        have S2462 : Sep _ _ _ _ H2445 (a2447 :: (L2449 ++ [])) := Sep.steptree S0 e2446 eG2454 sG2455 hn2456 (a2447 :: L2449) (all_cons ⟨n2451, ga2457, some_ne h2459⟩ (fun b hb => ⟨nb2452 b hb, gL2458 b hb, OwAll.there w2460 b hb⟩))
        have hw := cW_ok hw
        exact hK0 _ hw _ _ _ _ _ fr2461 ((fun b hb => Sep.h0 S2462 (((fun b hb => (.tail _ (List.mem_append_left _ hb))) : ∀ b ∈ L2449, b ∈ (a2447 :: (L2449 ++ []))) b hb) nm_nil) : ∀ b ∈ L2449, H b = none) (nd2453 : ∀ b ∈ L2449, b ≠ a2447) S2462.b0 S2462.g0 S2462.sG S2462.gn (S2462.ow _ (.head _)).1 ((fun b hb => (S2462.ow b (((fun b hb => (.tail _ (List.mem_append_left _ hb))) : ∀ b ∈ L2449, b ∈ (a2447 :: (L2449 ++ []))) b hb)).1) : ∀ b ∈ L2449, G2450 b = none) h2459 w2460
      · have hw := cW_neg c2443 hw
        refine ⟨(by show 0 ≤ sizeLine; decide), fun p2463 n2464 => ?_⟩
        generalize g2465 : upd H p2463 _ = H2466
        obtain ⟨e2467, h2468⟩ := gen_new n2464 g2465
        have h2469 : H2466 p2463 = some (.lst ([])) := h2468
        have fr2470 := S0.free n2464
        have S2471 := S0.new n2464 e2467 h2469 fr2470
        have d2472 : RpAll G ([]) ((([] : (List (List Int))) : (List (List Int))).map (encL PyData.int)) := RpAll.nil
        refine ⟨_, rfl, _, rfl, _, _, rfl, rfl, (show (0 : Int) ≤ 2 by decide), _, _, rfl, rfl, _, rfl, _, _, rfl, rfl, (show (0 : Int) ≤ 2 by decide), _, _, rfl, rfl, _, rfl, _, _, rfl, rfl, _, rfl, _, _, rfl, rfl, rfl, rfl, G, _, _, _, _, _, _, rfl, S2471.sG, (Rp.hide_nil (rp_mk_list (S2471.bM _ _ h2438) (RpAll.mono S2471.bM d2439))), cW_call hw (fun v2473 hw H2474 a2476 vs2477 L2478 G2479 n2480 nb2481 nd2482 e2475 eG2483 sG2484 hn2485 ga2486 gL2487 h2488 w2489 => ?_) (fun e he H2 e2 => hE e he H2 (Same.trans S2471.b0 e2))⟩
        have fr2490 := S2471.free n2480
        have S2491 : Sep _ _ _ _ H2474 (a2476 :: (L2478 ++ (p2463 :: []))) := Sep.steptree S2471 e2475 eG2483 sG2484 hn2485 (a2476 :: L2478) (all_cons ⟨n2480, ga2486, some_ne h2488⟩ (fun b hb => ⟨nb2481 b hb, gL2487 b hb, OwAll.there w2489 b hb⟩))
        obtain ⟨K2497, hK2498, hw⟩ := cW_push hw
        refine ⟨_, rfl, ⟨_, (SqL.of h2488)⟩, for_list (K := K) (a := a2476) (xs := vs2477) (fun i σ H' => ∃ (sums_2499 : (List (List Int))) (vs2500 : List V) (u2501 : Option V) (G' : Hp), σ = [some (V.ref a2436), some (V.int (x')), some (V.int (y')), some (V.int (width')), some (V.int (height')), some (V.int (top')), some (V.int ((PySem.Builtin.bitAnd (x') (3)))), some (V.int ((PySem.Builtin.bitAnd (y') (3)))), some (V.ref p2463), u2501, none, none, none] ∧ Same G2479 G' ∧ Sep [] H G G' H' (p2463 :: (a2476 :: (L2478 ++ []))) ∧ H' p2463 = some (.lst (vs2500)) ∧ H' a2476 = some (.lst (vs2477)) ∧ RpAll G' (vs2500) ((sums_2499 : (List (List Int))).map (encL PyData.int)) ∧ OwAll G' H' L2478 (vs2477) ((v2473 : (List (List Int))).map (oL oI)) ∧ cW (forS (List.drop i (v2473)) sums_2499 (fun s x => F_quarter_area_b1 (width') ((PySem.Builtin.bitAnd (x') (3))) s x)) K2497 EE) ?_ ?_ ?_ ?_⟩
        · have h2502 := (e2475 _ _ h2469)
          exact ⟨(([] : (List (List Int)))), _, _, _, rfl, (Same.refl _), (S2491.sub (all_cons (.tail _ (List.mem_append_right _ (.head _))) (all_cons (.head _) (all_app ((fun b hb => (.tail _ (List.mem_append_left _ hb))) : ∀ b ∈ L2478, b ∈ (a2476 :: (L2478 ++ (p2463 :: [])))) all_nil)))), h2502, h2488, (RpAll.mono eG2483 d2472), w2489, hw⟩
        · intro i σ H2503 _ hw
          obtain ⟨sums_2499, vs2500, u2501, G2509, rfl, eG2510, S2504, h2505, h2506, d2507, w2508, hw⟩ := hw
          exact (SqL.of h2506)
        · intro i x σ H2511 hj hw
          obtain ⟨sums_2499, vs2500, u2501, G2517, rfl, eG2518, S2512, h2513, h2514, d2515, w2516, hw⟩ := hw
          obtain ⟨x2519, L2520, hx, w2521, hs2522⟩ := OwAll.turn w2516 hj
          obtain ⟨b2523, rfl, rfl, h2524⟩ := Ow.toInts w2521
          have hv2525 := hj
          have hx2526 := hx
          have hw := cW_forS hx hw
          have hw : cW (F_quarter_area_b1 (width') ((PySem.Builtin.bitAnd (x') (3))) (sums_2499) (x2519)) _ EE := hw
          unfold F_quarter_area_b1 at hw
          obtain ⟨K2528, hK2529, hw⟩ := cW_name hw
          obtain ⟨g2531, hw⟩ := cW_grd hw
          obtain ⟨K2535, hK2536, hw⟩ := cW_push hw
          refine ⟨_, rfl, (.inl ⟨rfl, _, SqL.of h2513⟩), _, rfl, _, _, _, _, rfl, rfl, (T.ts_WEIGHTS _), (atI_map (xs := ([AD.t_WEIGHTS_0, AD.t_WEIGHTS_1, AD.t_WEIGHTS_2, AD.t_WEIGHTS_3] : List Addr)) (by show -(4 : Int) ≤ _ ∧ _ < (4 : Int); exact ⟨by have := g2531.1; omega, g2531.2⟩)), _, rfl, (by decide), (by decide), fun D2537 n2538 => lc_range (lo := 0) (n := Int.toNat (6)) (fun i H' => ∃ (G' : Hp) (acc2540 : (List (List Int))) (vs2541 : List V), Same G2517 G' ∧ Sep [] H G G' H' (D2537 :: (a2476 :: (p2463 :: (L2478 ++ [])))) ∧ H' a2476 = some (.lst (vs2477)) ∧ H' p2463 = some (.lst (vs2500)) ∧ H' D2537 = some (.lst vs2541) ∧ OwAll G' H' L2478 (vs2477) ((v2473 : (List (List Int))).map (oL oI)) ∧ RpAll G' vs2541 ((acc2540 : (List (List Int))).map (encL PyData.int)) ∧ Same H2511 H' ∧ cW (mapA (List.drop i (rng (0) (Int.toNat (6)))) acc2540 (fun x => noEr (F_quarter_area_c2 (width') (x2519) x))) K2535 EE) ?_ ?_ ?_⟩
          · generalize g2542 : upd H2511 D2537 _ = H2543
            obtain ⟨e2544, h2545⟩ := gen_new n2538 g2542
            have fr2546 := S2512.free n2538
            have S2547 := S2512.new n2538 e2544 h2545 fr2546
            have h2548 := (e2544 _ _ h2514)
            have h2549 := (e2544 _ _ h2513)
            have w2550 : OwAll G2517 H2543 L2478 (vs2477) ((v2473 : (List (List Int))).map (oL oI)) := (OwAll.mono (Same.refl _) (keeps_same e2544) w2516)
            exact ⟨_, [], [], Same.refl _, (S2547.sub (all_cons (.head _) (all_cons (.tail _ (.tail _ (.head _))) (all_cons (.tail _ (.head _)) (all_app ((fun b hb => (.tail _ (.tail _ (.tail _ (List.mem_append_left _ hb))))) : ∀ b ∈ L2478, b ∈ (D2537 :: (p2463 :: (a2476 :: (L2478 ++ []))))) all_nil))))), h2548, h2549, h2545, w2550, RpAll.nil, e2544, hw⟩
          · intro i H2551 hi hw
            obtain ⟨G2554, acc2556, vs2557, eG2555, S2552, h2563, h2564, h2553, w2565, d2558, eo2562, hw⟩ := hw
            obtain ⟨z2566, hw⟩ := cW_mapA (rng_get hi) hw
            generalize (0 + (i : Int)) = x2567 at hw ⊢
            have hw := cW_noEr hw
            have hw : cW (F_quarter_area_c2 (width') (x2519) (x2567)) _ (fun _ => False) := hw
            unfold F_quarter_area_c2 at hw
            refine ⟨rfl, ?_⟩
            refine tyes_go ?_
            have h2569 := (eo2562 _ _ h2524)
            refine ⟨_, rfl, _, rfl, _, rfl, _, rfl, _, rfl, _, _, rfl, rfl, _, rfl, _, _, rfl, (SqL.of h2569), fun p2570 n2571 => ?_⟩
            generalize g2572 : upd H2551 p2570 _ = H2573
            obtain ⟨e2574, h2575⟩ := gen_new n2571 g2572
            have h2576 : H2573 p2570 = some (.lst ((cutL (x2519) (some (x2567)) (some ((x2567 + width'))) : (List Int)).map V.int)) := cut_map h2575
            have fr2577 := S2552.free n2571
            have S2578 := S2552.new n2571 e2574 h2576 fr2577
            obtain ⟨G2579, eG2580, hg2581, S2582⟩ := Sep.freeze (O' := (D2537 :: (a2476 :: (p2463 :: (L2478 ++ []))))) S2578 (.head _) h2576 fr2577 ((all_cons ⟨(.tail _ (.head _)), (ne_of_none h2553 n2571)⟩ (all_cons ⟨(.tail _ (.tail _ (.head _))), (ne_of_none h2563 n2571)⟩ (all_cons ⟨(.tail _ (.tail _ (.tail _ (.head _)))), (ne_of_none h2564 n2571)⟩ (all_app (fun b hb => ⟨((fun b hb => (.tail _ (.tail _ (.tail _ (.tail _ (List.mem_append_left _ hb)))))) : ∀ b ∈ L2478, b ∈ (p2570 :: (D2537 :: (a2476 :: (p2463 :: (L2478 ++ [])))))) b hb, (there_ne (fun b_ hb_ => (S2552.ow b_ (((fun b hb => (.tail _ (.tail _ (.tail _ (List.mem_append_left _ hb))))) : ∀ b ∈ L2478, b ∈ (D2537 :: (a2476 :: (p2463 :: (L2478 ++ []))))) b_ hb_)).2.1) n2571) b hb⟩) all_nil)))))
            have h2583 := (e2574 _ _ h2553)
            refine ⟨_, h2583, (app_len (RpAll.mono eG2580 d2558) z2566), ?_⟩
            generalize g2584 : upd H2573 D2537 _ = H2585
            obtain ⟨x2586, h2587⟩ := gen_mut g2584
            have S2588 := S2582.mut1 x2586 (.head _) h2587
            have hw := cW_ok hw
            have h2589 := (x2586 _ _ (e2574 _ _ h2563) (ne_of_none h2514 n2538))
            have h2590 := (x2586 _ _ (e2574 _ _ h2564) (ne_of_none h2513 n2538))
            have w2591 : OwAll G2579 H2585 L2478 (vs2477) ((v2473 : (List (List Int))).map (oL oI)) := (OwAll.mono eG2580 keeps_refl (OwAll.mono (Same.refl _) (keeps_mut x2586 ((there_ne (fun b_ hb_ => (S2512.ow b_ (((fun b hb => (.tail _ (.tail _ (List.mem_append_left _ hb)))) : ∀ b ∈ L2478, b ∈ (p2463 :: (a2476 :: (L2478 ++ [])))) b_ hb_)).2.1) n2538) : ∀ b ∈ L2478, b ≠ D2537)) (OwAll.mono (Same.refl _) (keeps_same e2574) w2565)))
            exact ⟨_, (acc2556 ++ [cutL (x2519) (some (x2567)) (some ((x2567 + width')))]), _, (Same.trans eG2555 eG2580), S2588, h2589, h2590, h2587, w2591, (app_map (RpAll.mono eG2580 d2558) (RpAll.one (rp_mk_ints hg2581))), (same_mut (Same.trans eo2562 e2574) x2586 n2538), hw⟩
          intro H2592 hw
          obtain ⟨G2595, acc2597, vs2598, eG2596, S2593, h2604, h2605, h2594, w2606, d2599, eo2603, hw⟩ := hw
          have hw := hK2536 _ (cW_mapA0 (rng_len _ _).symm hw)
          have fr2607 := S2512.free n2538
          refine ⟨rfl, rfl, G2595, _, _, _, _, rfl, S2593.sG, (T.tt_WEIGHTS _ g2531.1 g2531.2), (Rp.hide_nil (rp_mk_list h2594 (RpAll.mono S2593.sG d2599))), cW_call hw (fun v2608 hw p2611 H2609 n2612 e2610 h2613 => ?_) (fun e he H2 e2 => hE e he H2 (Same.trans S2593.b0 e2))⟩
          have h2614 : H2609 p2611 = some (.lst ((v2608 : (List Int)).map V.int)) := h2613
          have fr2615 := S2593.free n2612
          have S2616 := S2593.new n2612 e2610 h2614 fr2615
          obtain ⟨g2617, hw⟩ := cW_grd hw
          have h2618 := (e2610 _ _ h2605)
          obtain ⟨G2619, eG2620, hg2621, S2622⟩ := Sep.freeze (O' := (D2537 :: (a2476 :: (p2463 :: (L2478 ++ []))))) S2616 (.head _) h2614 fr2615 ((all_cons ⟨(.tail _ (.head _)), (ne_of_none h2594 n2612)⟩ (all_cons ⟨(.tail _ (.tail _ (.head _))), (ne_of_none h2604 n2612)⟩ (all_cons ⟨(.tail _ (.tail _ (.tail _ (.head _)))), (ne_of_none h2605 n2612)⟩ (all_app (fun b hb => ⟨((fun b hb => (.tail _ (.tail _ (.tail _ (.tail _ (List.mem_append_left _ hb)))))) : ∀ b ∈ L2478, b ∈ (p2611 :: (D2537 :: (a2476 :: (p2463 :: (L2478 ++ [])))))) b hb, (there_ne (fun b_ hb_ => (S2593.ow b_ (((fun b hb => (.tail _ (.tail _ (.tail _ (List.mem_append_left _ hb))))) : ∀ b ∈ L2478, b ∈ (D2537 :: (a2476 :: (p2463 :: (L2478 ++ []))))) b_ hb_)).2.1) n2612) b hb⟩) all_nil)))))
          refine ⟨_, _, _, rfl, rfl, h2618, (app_len (RpAll.mono eG2620 (RpAll.mono eG2596 d2515)) g2617), ?_⟩
          generalize g2623 : upd H2609 p2463 _ = H2624
          obtain ⟨x2625, h2626⟩ := gen_mut g2623
          have h2627 : H2624 p2463 = some (.lst (vs2500 ++ [V.ref p2611])) := h2626
          have S2628 := S2622.mut1 x2625 (.tail _ (.tail _ (.head _))) h2627
          have d2629 : RpAll G2619 (vs2500 ++ [V.ref p2611]) (((sums_2499) ++ [v2608] : (List (List Int))).map (encL PyData.int)) := app_map (RpAll.mono eG2620 (RpAll.mono eG2596 d2515)) (RpAll.one (rp_mk_ints hg2621))
          have hw := cW_bnd hw
          have hw := cW_ok hw
          have hw := hK2529 _ hw
          have h2631 := (x2625 _ _ (e2610 _ _ h2604) (ne_of_none h2469 n2480).symm)
          have w2632 : OwAll G2619 H2624 L2478 (vs2477) ((v2473 : (List (List Int))).map (oL oI)) := (OwAll.mono eG2620 keeps_refl (OwAll.mono (Same.refl _) (keeps_mut x2625 ((new_ne2 nb2481 (S2471.ow _ (.head _)).2.1) : ∀ b ∈ L2478, b ≠ p2463)) (OwAll.mono (Same.refl _) (keeps_same e2610) w2606)))
          exact ⟨((sums_2499) ++ [v2608]), _, _, _, rfl, (Same.trans (Same.trans eG2518 eG2596) eG2620), (S2628.sub (all_cons (.tail _ (.tail _ (.head _))) (all_cons (.tail _ (.head _)) (all_app ((fun b hb => (.tail _ (.tail _ (.tail _ (List.mem_append_left _ hb))))) : ∀ b ∈ L2478, b ∈ (D2537 :: (a2476 :: (p2463 :: (L2478 ++ []))))) all_nil)))), h2627, h2631, d2629, w2632, hw⟩
        · intro σ H2633 hw
          obtain ⟨sums_2499, vs2500, u2501, G2639, rfl, eG2640, S2634, h2635, h2636, d2637, w2638, hw⟩ := hw
          have hw := hK2498 _ (cW_forS0 (by rw [(OwAll.rpA w2638 (encO_L encO_I) S2634.sG).len, List.length_map]) hw)
          have hw : cW (F_quarter_area_r1 (height') (top') ((PySem.Builtin.bitAnd (y') (3))) (sums_2499)) _ EE := hw
          unfold F_quarter_area_r1 at hw
          obtain ⟨G2642, eG2643, hg2644, S2645⟩ := Sep.freeze (O' := (a2476 :: (L2478 ++ []))) S2634 (.head _) h2635 fr2470 ((all_cons ⟨(.tail _ (.head _)), (ne_of_none h2469 n2480).symm⟩ (all_app (fun b hb => ⟨((fun b hb => (.tail _ (.tail _ (List.mem_append_left _ hb)))) : ∀ b ∈ L2478, b ∈ (p2463 :: (a2476 :: (L2478 ++ [])))) b hb, (new_ne2 nb2481 (S2471.ow _ (.head _)).2.1) b hb⟩) all_nil)))
          obtain ⟨g2646, hw⟩ := cW_grd hw
          obtain ⟨K2651, hK2652, hw⟩ := cW_push hw
          refine ⟨_, rfl, _, rfl, g2646.1, g2646.2, fun D2653 n2654 => lc_range (lo := 0) (n := Int.toNat (height')) (fun i H' => ∃ (G' : Hp) (acc2656 : (List (List Int))) (vs2657 : List V) (L2655 : List Addr), Same G2642 G' ∧ Sep [] H G G' H' (D2653 :: (L2655 ++ [])) ∧ H' D2653 = some (.lst vs2657) ∧ OwAll G' H' L2655 vs2657 ((acc2656 : (List (List Int))).map (oL oI)) ∧ (∀ b ∈ L2655, H2633 b = none) ∧ (∀ b ∈ L2655, b ≠ D2653) ∧ Same H2633 H' ∧ cW (mapA (List.drop i (rng (0) (Int.toNat (height')))) acc2656 (fun x => noEr (F_quarter_area_c3 (top') ((PySem.Builtin.bitAnd (y') (3))) (sums_2499) x))) K2651 EE) ?_ ?_ ?_⟩
          · generalize g2658 : upd H2633 D2653 _ = H2659
            obtain ⟨e2660, h2661⟩ := gen_new n2654 g2658
            have fr2662 := S2645.free n2654
            have S2663 := S2645.new n2654 e2660 h2661 fr2662
            exact ⟨_, [], [], [], Same.refl _, (S2663.sub (all_cons (.head _) (all_app (L := []) all_nil all_nil))), h2661, OwAll.nil, all_nil, all_nil, e2660, hw⟩
          · intro i H2664 hi hw
            obtain ⟨G2667, acc2669, vs2670, L2672, eG2668, S2665, h2666, d2671, nb2673, nd2674, eo2675, hw⟩ := hw
            obtain ⟨z2676, hw⟩ := cW_mapA (rng_get hi) hw
            generalize (0 + (i : Int)) = x2677 at hw ⊢
            have hw := cW_noEr hw
            have hw : cW (F_quarter_area_c3 (top') ((PySem.Builtin.bitAnd (y') (3))) (sums_2499) (x2677)) _ (fun _ => False) := hw
            unfold F_quarter_area_c3 at hw
            refine ⟨rfl, ?_⟩
            refine tyes_go ?_
            obtain ⟨g2679, hw⟩ := cW_grd hw
            refine ⟨_, rfl, _, _, _, _, rfl, rfl, (T.ts_WEIGHTS _), (atI_map (xs := ([AD.t_WEIGHTS_0, AD.t_WEIGHTS_1, AD.t_WEIGHTS_2, AD.t_WEIGHTS_3] : List Addr)) (by show -(4 : Int) ≤ _ ∧ _ < (4 : Int); exact ⟨by have := g2679.1; omega, g2679.2⟩)), _, rfl, _, rfl, _, rfl, _, rfl, _, _, rfl, rfl, _, rfl, _, _, rfl, (SqL.of (S2665.sG _ _ (eG2668 _ _ hg2644))), fun p2680 n2681 => ?_⟩
            generalize g2682 : upd H2664 p2680 _ = H2683
            obtain ⟨e2684, h2685⟩ := gen_new n2681 g2682
            have h2686 : H2683 p2680 = some (.lst (cutV (vs2500) (some (x2677)) (some ((x2677 + 6))))) := h2685
            have fr2687 := S2665.free n2681
            have S2688 := S2665.new n2681 e2684 h2686 fr2687
            have d2689 : RpAll G2667 (cutV (vs2500) (some (x2677)) (some ((x2677 + 6)))) ((cutL (sums_2499) (some (x2677)) (some ((x2677 + 6))) : (List (List Int))).map (encL PyData.int)) := cut_all (some (x2677)) (some ((x2677 + 6))) (RpAll.mono eG2668 (RpAll.mono eG2643 d2637))
            refine ⟨rfl, rfl, G2667, _, _, _, _, rfl, S2688.sG, (T.tt_WEIGHTS _ g2679.1 g2679.2), (Rp.hide_nil (rp_mk_list h2686 (RpAll.mono S2688.sG d2689))), cW_call hw (fun v2690 hw p2693 H2691 n2694 e2692 h2695 => ?_) (fun e he => he.elim)⟩
            have h2696 : H2691 p2693 = some (.lst ((v2690 : (List Int)).map V.int)) := h2695
            have fr2697 := S2688.free n2694
            have S2698 := S2688.new n2694 e2692 h2696 fr2697
            obtain ⟨K2701, hK2702, hw⟩ := cW_push hw
            refine ⟨_, rfl, ⟨_, (SqL.of h2696)⟩, fun D2703 n2704 => lc_list (K := K) (a := p2693) (xs := (v2690 : (List Int)).map V.int) (fun i2 H' => ∃ (G' : Hp) (acc2706 : (List Int)), Same G2667 G' ∧ Sep [] H G G' H' (D2703 :: (D2653 :: (p2693 :: (L2672 ++ [])))) ∧ H' D2653 = some (.lst (vs2670)) ∧ H' p2693 = some (.lst ((v2690 : (List Int)).map V.int)) ∧ H' D2703 = some (.lst ((acc2706 : (List Int)).map V.int)) ∧ OwAll G' H' L2672 (vs2670) ((acc2669 : (List (List Int))).map (oL oI)) ∧ Same H2691 H' ∧ cW (mapA (List.drop i2 (v2690)) acc2706 (fun x => noEr (F_quarter_area_c4 (top') x))) K2701 (fun _ => False)) ?_ ?_ ?_ ?_⟩
            · generalize g2708 : upd H2691 D2703 _ = H2709
              obtain ⟨e2710, h2711⟩ := gen_new n2704 g2708
              have fr2712 := S2698.free n2704
              have S2713 := S2698.new n2704 e2710 h2711 fr2712
              have h2714 := (e2710 _ _ (e2692 _ _ (e2684 _ _ h2666)))
              have h2715 := (e2710 _ _ h2696)
              have w2716 : OwAll G2667 H2709 L2672 (vs2670) ((acc2669 : (List (List Int))).map (oL oI)) := (OwAll.mono (Same.refl _) (keeps_same e2710) (OwAll.mono (Same.refl _) (keeps_same e2692) (OwAll.mono (Same.refl _) (keeps_same e2684) d2671)))
              exact ⟨_, [], Same.refl _, (S2713.sub (all_cons (.head _) (all_cons (.tail _ (.tail _ (.tail _ (.head _)))) (all_cons (.tail _ (.head _)) (all_app ((fun b hb => (.tail _ (.tail _ (.tail _ (.tail _ (List.mem_append_left _ hb)))))) : ∀ b ∈ L2672, b ∈ (D2703 :: (p2693 :: (p2680 :: (D2653 :: (L2672 ++ [])))))) all_nil))))), h2714, h2715, h2711, w2716, e2710, hw⟩
            · intro i2 H2717 _ hw
              obtain ⟨G2720, acc2722, eG2721, S2718, h2729, h2730, h2719, w2731, eo2728, hw⟩ := hw
              exact (SqL.of h2730)
            · intro i2 x H2732 hj hw
              obtain ⟨G2735, acc2737, eG2736, S2733, h2744, h2745, h2734, w2746, eo2743, hw⟩ := hw
              obtain ⟨x2747, hx, rfl⟩ := map_get hj
              obtain ⟨z2748, hw⟩ := cW_mapA hx hw
              have hw := cW_noEr hw
              have hw : cW (F_quarter_area_c4 (top') (x2747)) _ (fun _ => False) := hw
              unfold F_quarter_area_c4 at hw
              refine ⟨rfl, ?_⟩
              refine tyes_go ?_
              refine ⟨_, rfl, _, _, rfl, rfl, _, _, rfl, rfl, (show (0 : Int) ≤ 12 by decide), _, rfl, rfl, rfl, G2735, _, _, _, rfl, S2733.sG, cW_call hw (fun v2750 hw => ?_) (fun e he => he.elim)⟩
              refine ⟨_, h2734, (app_lenM z2748), ?_⟩
              generalize g2751 : upd H2732 D2703 _ = H2752
              obtain ⟨x2753, h2754⟩ := gen_mut g2751
              have S2755 := S2733.mut1 x2753 (.head _) h2754
              have hw := cW_ok hw
              have h2756 := (x2753 _ _ h2744 (ne_of_none (e2692 _ _ (e2684 _ _ h2666)) n2704))
              have h2757 := (x2753 _ _ h2745 (ne_of_none h2696 n2704))
              have w2758 : OwAll G2735 H2752 L2672 (vs2670) ((acc2669 : (List (List Int))).map (oL oI)) := (OwAll.mono (Same.refl _) (keeps_mut x2753 ((there_ne (fun b_ hb_ => (S2698.ow b_ (((fun b hb => (.tail _ (.tail _ (.tail _ (List.mem_append_left _ hb))))) : ∀ b ∈ L2672, b ∈ (p2693 :: (p2680 :: (D2653 :: (L2672 ++ []))))) b_ hb_)).2.1) n2704) : ∀ b ∈ L2672, b ≠ D2703)) w2746)
              exact ⟨_, (acc2737 ++ [v2750]), eG2736, S2755, h2756, h2757, (snoc_map h2754), w2758, (same_mut eo2743 x2753 n2704), hw⟩
            intro H2759 hw
            obtain ⟨G2762, acc2764, eG2763, S2760, h2771, h2772, h2761, w2773, eo2770, hw⟩ := hw
            have hw := hK2702 _ (cW_mapA0 (by rw [List.length_map]) hw)
            have fr2774 := S2698.free n2704
            refine ⟨_, h2771, (app_len (OwAll.rpA w2773 (encO_L encO_I) S2760.sG) z2676), ?_⟩
            generalize g2775 : upd H2759 D2653 _ = H2776
            obtain ⟨x2777, h2778⟩ := gen_mut g2775
            have S2779 := S2760.mut1 x2777 (.tail _ (.head _)) h2778
            have hw := cW_ok hw
            exact ⟨_, (acc2669 ++ [acc2764]), _, (L2672 ++ (D2703 :: ([] : List Addr))), (Same.trans eG2668 eG2763), (S2779.sub (all_cons (.tail _ (.head _)) (all_app (all_app ((fun b hb => (.tail _ (.tail _ (.tail _ (List.mem_append_left _ hb))))) : ∀ b ∈ L2672, b ∈ (D2703 :: (D2653 :: (p2693 :: (L2672 ++ []))))) (all_cons (.head _) all_nil)) all_nil))), h2778, (OwAll.mono (Same.refl _) (keeps_mut x2777 ((all_app nd2674 (all_cons (ne_of_none (e2692 _ _ (e2684 _ _ h2666)) n2704).symm all_nil)) : ∀ b ∈ (L2672 ++ (D2703 :: ([] : List Addr))), b ≠ D2653)) (OwAll.snocM w2773 (Ow.ints h2761) ((fun b hb => (nm_cons ((there_ne (fun b_ hb_ => (S2698.ow b_ (((fun b hb => (.tail _ (.tail _ (.tail _ (List.mem_append_left _ hb))))) : ∀ b ∈ L2672, b ∈ (p2693 :: (p2680 :: (D2653 :: (L2672 ++ []))))) b_ hb_)).2.1) n2704) b hb) nm_nil)) : ∀ b ∈ L2672, b ∉ (D2703 :: ([] : List Addr))))), ((all_app nb2673 (all_cons (none_of_same (Same.trans (Same.trans eo2675 e2684) e2692) n2704) all_nil)) : ∀ b ∈ (L2672 ++ (D2703 :: ([] : List Addr))), H2633 b = none), ((all_app nd2674 (all_cons (ne_of_none (e2692 _ _ (e2684 _ _ h2666)) n2704).symm all_nil)) : ∀ b ∈ (L2672 ++ (D2703 :: ([] : List Addr))), b ≠ D2653), (same_mut (Same.trans (Same.trans (Same.trans eo2675 e2684) e2692) eo2770) x2777 n2654), hw⟩
          intro H2780 hw
          obtain ⟨G2783, acc2785, vs2786, L2788, eG2784, S2781, h2782, d2787, nb2789, nd2790, eo2791, hw⟩ := hw
          have hw := hK2652 _ (cW_mapA0 (rng_len _ _).symm hw)
          have fr2792 := S2645.free n2654
          have hw := cW_ok hw
          exact hK0 _ hw _ _ _ _ _ fr2792 ((fun b hb => Sep.h0 S2781 (((fun b hb => (.tail _ (List.mem_append_left _ hb))) : ∀ b ∈ L2788, b ∈ (D2653 :: (L2788 ++ []))) b hb) nm_nil) : ∀ b ∈ L2788, H b = none) (nd2790 : ∀ b ∈ L2788, b ≠ D2653) S2781.b0 S2781.g0 S2781.sG S2781.gn (S2781.ow _ (.head _)).1 ((fun b hb => (S2781.ow b (((fun b hb => (.tail _ (List.mem_append_left _ hb))) : ∀ b ∈ L2788, b ∈ (D2653 :: (L2788 ++ []))) b hb)).1) : ∀ b ∈ L2788, G2783 b = none) h2782 d2787
    · have hw := cW_neg c2442 hw
      refine iteF ?_
      refine ⟨(by show 0 ≤ sizeLine; decide), fun p2793 n2794 => ?_⟩
      generalize g2795 : upd H p2793 _ = H2796
      obtain ⟨e2797, h2798⟩ := gen_new n2794 g2795
      have h2799 : H2796 p2793 = some (.lst ([])) := h2798
      have fr2800 := S0.free n2794
      have S2801 := S0.new n2794 e2797 h2799 fr2800
      have d2802 : RpAll G ([]) ((([] : (List (List Int))) : (List (List Int))).map (encL PyData.int)) := RpAll.nil
      refine ⟨_, rfl, _, rfl, _, _, rfl, rfl, (show (0 : Int) ≤ 2 by decide), _, _, rfl, rfl, _, rfl, _, _, rfl, rfl, (show (0 : Int) ≤ 2 by decide), _, _, rfl, rfl, _, rfl, _, _, rfl, rfl, _, rfl, _, _, rfl, rfl, rfl, rfl, G, _, _, _, _, _, _, rfl, S2801.sG, (Rp.hide_nil (rp_mk_list (S2801.bM _ _ h2438) (RpAll.mono S2801.bM d2439))), cW_call hw (fun v2803 hw H2804 a2806 vs2807 L2808 G2809 n2810 nb2811 nd2812 e2805 eG2813 sG2814 hn2815 ga2816 gL2817 h2818 w2819 => ?_) (fun e he H2 e2 => hE e he H2 (Same.trans S2801.b0 e2))⟩
      have fr2820 := S2801.free n2810
      have S2821 : Sep _ _ _ _ H2804 (a2806 :: (L2808 ++ (p2793 :: []))) := Sep.steptree S2801 e2805 eG2813 sG2814 hn2815 (a2806 :: L2808) (all_cons ⟨n2810, ga2816, some_ne h2818⟩ (fun b hb => ⟨nb2811 b hb, gL2817 b hb, OwAll.there w2819 b hb⟩))
      obtain ⟨K2827, hK2828, hw⟩ := cW_push hw
      refine ⟨_, rfl, ⟨_, (SqL.of h2818)⟩, for_list (K := K) (a := a2806) (xs := vs2807) (fun i σ H' => ∃ (sums_2829 : (List (List Int))) (vs2830 : List V) (u2831 : Option V) (G' : Hp), σ = [some (V.ref a2436), some (V.int (x')), some (V.int (y')), some (V.int (width')), some (V.int (height')), some (V.int (top')), some (V.int ((PySem.Builtin.bitAnd (x') (3)))), some (V.int ((PySem.Builtin.bitAnd (y') (3)))), some (V.ref p2793), u2831, none, none, none] ∧ Same G2809 G' ∧ Sep [] H G G' H' (p2793 :: (a2806 :: (L2808 ++ []))) ∧ H' p2793 = some (.lst (vs2830)) ∧ H' a2806 = some (.lst (vs2807)) ∧ RpAll G' (vs2830) ((sums_2829 : (List (List Int))).map (encL PyData.int)) ∧ OwAll G' H' L2808 (vs2807) ((v2803 : (List (List Int))).map (oL oI)) ∧ cW (forS (List.drop i (v2803)) sums_2829 (fun s x => F_quarter_area_b5 (width') ((PySem.Builtin.bitAnd (x') (3))) s x)) K2827 EE) ?_ ?_ ?_ ?_⟩
      · have h2832 := (e2805 _ _ h2799)
        exact ⟨(([] : (List (List Int)))), _, _, _, rfl, (Same.refl _), (S2821.sub (all_cons (.tail _ (List.mem_append_right _ (.head _))) (all_cons (.head _) (all_app ((fun b hb => (.tail _ (List.mem_append_left _ hb))) : ∀ b ∈ L2808, b ∈ (a2806 :: (L2808 ++ (p2793 :: [])))) all_nil)))), h2832, h2818, (RpAll.mono eG2813 d2802), w2819, hw⟩
      · intro i σ H2833 _ hw
        obtain ⟨sums_2829, vs2830, u2831, G2839, rfl, eG2840, S2834, h2835, h2836, d2837, w2838, hw⟩ := hw
        exact (SqL.of h2836)
      · intro i x σ H2841 hj hw
        obtain ⟨sums_2829, vs2830, u2831, G2847, rfl, eG2848, S2842, h2843, h2844, d2845, w2846, hw⟩ := hw
        obtain ⟨x2849, L2850, hx, w2851, hs2852⟩ := OwAll.turn w2846 hj
        obtain ⟨b2853, rfl, rfl, h2854⟩ := Ow.toInts w2851
        have hv2855 := hj
        have hx2856 := hx
        have hw := cW_forS hx hw
        have hw : cW (F_quarter_area_b5 (width') ((PySem.Builtin.bitAnd (x') (3))) (sums_2829) (x2849)) _ EE := hw
        unfold F_quarter_area_b5 at hw
        obtain ⟨K2858, hK2859, hw⟩ := cW_name hw
        obtain ⟨g2861, hw⟩ := cW_grd hw
        obtain ⟨K2865, hK2866, hw⟩ := cW_push hw
        refine ⟨_, rfl, (.inl ⟨rfl, _, SqL.of h2843⟩), _, rfl, _, _, _, _, rfl, rfl, (T.ts_WEIGHTS _), (atI_map (xs := ([AD.t_WEIGHTS_0, AD.t_WEIGHTS_1, AD.t_WEIGHTS_2, AD.t_WEIGHTS_3] : List Addr)) (by show -(4 : Int) ≤ _ ∧ _ < (4 : Int); exact ⟨by have := g2861.1; omega, g2861.2⟩)), _, rfl, (by decide), (by decide), fun D2867 n2868 => lc_range (lo := 0) (n := Int.toNat (6)) (fun i H' => ∃ (G' : Hp) (acc2870 : (List (List Int))) (vs2871 : List V), Same G2847 G' ∧ Sep [] H G G' H' (D2867 :: (a2806 :: (p2793 :: (L2808 ++ [])))) ∧ H' a2806 = some (.lst (vs2807)) ∧ H' p2793 = some (.lst (vs2830)) ∧ H' D2867 = some (.lst vs2871) ∧ OwAll G' H' L2808 (vs2807) ((v2803 : (List (List Int))).map (oL oI)) ∧ RpAll G' vs2871 ((acc2870 : (List (List Int))).map (encL PyData.int)) ∧ Same H2841 H' ∧ cW (mapA (List.drop i (rng (0) (Int.toNat (6)))) acc2870 (fun x => noEr (F_quarter_area_c6 (width') (x2849) x))) K2865 EE) ?_ ?_ ?_⟩
        · generalize g2872 : upd H2841 D2867 _ = H2873
          obtain ⟨e2874, h2875⟩ := gen_new n2868 g2872
          have fr2876 := S2842.free n2868
          have S2877 := S2842.new n2868 e2874 h2875 fr2876
          have h2878 := (e2874 _ _ h2844)
          have h2879 := (e2874 _ _ h2843)
          have w2880 : OwAll G2847 H2873 L2808 (vs2807) ((v2803 : (List (List Int))).map (oL oI)) := (OwAll.mono (Same.refl _) (keeps_same e2874) w2846)
          exact ⟨_, [], [], Same.refl _, (S2877.sub (all_cons (.head _) (all_cons (.tail _ (.tail _ (.head _))) (all_cons (.tail _ (.head _)) (all_app ((fun b hb => (.tail _ (.tail _ (.tail _ (List.mem_append_left _ hb))))) : ∀ b ∈ L2808, b ∈ (D2867 :: (p2793 :: (a2806 :: (L2808 ++ []))))) all_nil))))), h2878, h2879, h2875, w2880, RpAll.nil, e2874, hw⟩
        · intro i H2881 hi hw
          obtain ⟨G2884, acc2886, vs2887, eG2885, S2882, h2893, h2894, h2883, w2895, d2888, eo2892, hw⟩ := hw
          obtain ⟨z2896, hw⟩ := cW_mapA (rng_get hi) hw
          generalize (0 + (i : Int)) = x2897 at hw ⊢
          have hw := cW_noEr hw
          have hw : cW (F_quarter_area_c6 (width') (x2849) (x2897)) _ (fun _ => False) := hw
          unfold F_quarter_area_c6 at hw
          refine ⟨rfl, ?_⟩
          refine tyes_go ?_
          have h2899 := (eo2892 _ _ h2854)
          refine ⟨_, rfl, _, rfl, _, rfl, _, rfl, _, rfl, _, _, rfl, rfl, _, rfl, _, _, rfl, (SqL.of h2899), fun p2900 n2901 => ?_⟩
          generalize g2902 : upd H2881 p2900 _ = H2903
          obtain ⟨e2904, h2905⟩ := gen_new n2901 g2902
          have h2906 : H2903 p2900 = some (.lst ((cutL (x2849) (some (x2897)) (some ((x2897 + width'))) : (List Int)).map V.int)) := cut_map h2905
          have fr2907 := S2882.free n2901
          have S2908 := S2882.new n2901 e2904 h2906 fr2907
          obtain ⟨G2909, eG2910, hg2911, S2912⟩ := Sep.freeze (O' := (D2867 :: (a2806 :: (p2793 :: (L2808 ++ []))))) S2908 (.head _) h2906 fr2907 ((all_cons ⟨(.tail _ (.head _)), (ne_of_none h2883 n2901)⟩ (all_cons ⟨(.tail _ (.tail _ (.head _))), (ne_of_none h2893 n2901)⟩ (all_cons ⟨(.tail _ (.tail _ (.tail _ (.head _)))), (ne_of_none h2894 n2901)⟩ (all_app (fun b hb => ⟨((fun b hb => (.tail _ (.tail _ (.tail _ (.tail _ (List.mem_append_left _ hb)))))) : ∀ b ∈ L2808, b ∈ (p2900 :: (D2867 :: (a2806 :: (p2793 :: (L2808 ++ [])))))) b hb, (there_ne (fun b_ hb_ => (S2882.ow b_ (((fun b hb => (.tail _ (.tail _ (.tail _ (List.mem_append_left _ hb))))) : ∀ b ∈ L2808, b ∈ (D2867 :: (a2806 :: (p2793 :: (L2808 ++ []))))) b_ hb_)).2.1) n2901) b hb⟩) all_nil)))))
          have h2913 := (e2904 _ _ h2883)
          refine ⟨_, h2913, (app_len (RpAll.mono eG2910 d2888) z2896), ?_⟩
          generalize g2914 : upd H2903 D2867 _ = H2915
          obtain ⟨x2916, h2917⟩ := gen_mut g2914
          have S2918 := S2912.mut1 x2916 (.head _) h2917
          have hw := cW_ok hw
          have h2919 := (x2916 _ _ (e2904 _ _ h2893) (ne_of_none h2844 n2868))
          have h2920 := (x2916 _ _ (e2904 _ _ h2894) (ne_of_none h2843 n2868))
          have w2921 : OwAll G2909 H2915 L2808 (vs2807) ((v2803 : (List (List Int))).map (oL oI)) := (OwAll.mono eG2910 keeps_refl (OwAll.mono (Same.refl _) (keeps_mut x2916 ((there_ne (fun b_ hb_ => (S2842.ow b_ (((fun b hb => (.tail _ (.tail _ (List.mem_append_left _ hb)))) : ∀ b ∈ L2808, b ∈ (p2793 :: (a2806 :: (L2808 ++ [])))) b_ hb_)).2.1) n2868) : ∀ b ∈ L2808, b ≠ D2867)) (OwAll.mono (Same.refl _) (keeps_same e2904) w2895)))
          exact ⟨_, (acc2886 ++ [cutL (x2849) (some (x2897)) (some ((x2897 + width')))]), _, (Same.trans eG2885 eG2910), S2918, h2919, h2920, h2917, w2921, (app_map (RpAll.mono eG2910 d2888) (RpAll.one (rp_mk_ints hg2911))), (same_mut (Same.trans eo2892 e2904) x2916 n2868), hw⟩
        intro H2922 hw
        obtain ⟨G2925, acc2927, vs2928, eG2926, S2923, h2934, h2935, h2924, w2936, d2929, eo2933, hw⟩ := hw
        have hw := hK2866 _ (cW_mapA0 (rng_len _ _).symm hw)
        have fr2937 := S2842.free n2868
        refine ⟨rfl, rfl, G2925, _, _, _, _, rfl, S2923.sG, (T.tt_WEIGHTS _ g2861.1 g2861.2), (Rp.hide_nil (rp_mk_list h2924 (RpAll.mono S2923.sG d2929))), cW_call hw (fun v2938 hw p2941 H2939 n2942 e2940 h2943 => ?_) (fun e he H2 e2 => hE e he H2 (Same.trans S2923.b0 e2))⟩
        have h2944 : H2939 p2941 = some (.lst ((v2938 : (List Int)).map V.int)) := h2943
        have fr2945 := S2923.free n2942
        have S2946 := S2923.new n2942 e2940 h2944 fr2945
        obtain ⟨g2947, hw⟩ := cW_grd hw
        have h2948 := (e2940 _ _ h2935)
        obtain ⟨G2949, eG2950, hg2951, S2952⟩ := Sep.freeze (O' := (D2867 :: (a2806 :: (p2793 :: (L2808 ++ []))))) S2946 (.head _) h2944 fr2945 ((all_cons ⟨(.tail _ (.head _)), (ne_of_none h2924 n2942)⟩ (all_cons ⟨(.tail _ (.tail _ (.head _))), (ne_of_none h2934 n2942)⟩ (all_cons ⟨(.tail _ (.tail _ (.tail _ (.head _)))), (ne_of_none h2935 n2942)⟩ (all_app (fun b hb => ⟨((fun b hb => (.tail _ (.tail _ (.tail _ (.tail _ (List.mem_append_left _ hb)))))) : ∀ b ∈ L2808, b ∈ (p2941 :: (D2867 :: (a2806 :: (p2793 :: (L2808 ++ [])))))) b hb, (there_ne (fun b_ hb_ => (S2923.ow b_ (((fun b hb => (.tail _ (.tail _ (.tail _ (List.mem_append_left _ hb))))) : ∀ b ∈ L2808, b ∈ (D2867 :: (a2806 :: (p2793 :: (L2808 ++ []))))) b_ hb_)).2.1) n2942) b hb⟩) all_nil)))))
        refine ⟨_, _, _, rfl, rfl, h2948, (app_len (RpAll.mono eG2950 (RpAll.mono eG2926 d2845)) g2947), ?_⟩
        generalize g2953 : upd H2939 p2793 _ = H2954
        obtain ⟨x2955, h2956⟩ := gen_mut g2953
        have h2957 : H2954 p2793 = some (.lst (vs2830 ++ [V.ref p2941])) := h2956
        have S2958 := S2952.mut1 x2955 (.tail _ (.tail _ (.head _))) h2957
        have d2959 : RpAll G2949 (vs2830 ++ [V.ref p2941]) (((sums_2829) ++ [v2938] : (List (List Int))).map (encL PyData.int)) := app_map (RpAll.mono eG2950 (RpAll.mono eG2926 d2845)) (RpAll.one (rp_mk_ints hg2951))
        have hw := cW_bnd hw
        have hw := cW_ok hw
        have hw := hK2859 _ hw
        have h2961 := (x2955 _ _ (e2940 _ _ h2934) (ne_of_none h2799 n2810).symm)
        have w2962 : OwAll G2949 H2954 L2808 (vs2807) ((v2803 : (List (List Int))).map (oL oI)) := (OwAll.mono eG2950 keeps_refl (OwAll.mono (Same.refl _) (keeps_mut x2955 ((new_ne2 nb2811 (S2801.ow _ (.head _)).2.1) : ∀ b ∈ L2808, b ≠ p2793)) (OwAll.mono (Same.refl _) (keeps_same e2940) w2936)))
        exact ⟨((sums_2829) ++ [v2938]), _, _, _, rfl, (Same.trans (Same.trans eG2848 eG2926) eG2950), (S2958.sub (all_cons (.tail _ (.tail _ (.head _))) (all_cons (.tail _ (.head _)) (all_app ((fun b hb => (.tail _ (.tail _ (.tail _ (List.mem_append_left _ hb))))) : ∀ b ∈ L2808, b ∈ (D2867 :: (a2806 :: (p2793 :: (L2808 ++ []))))) all_nil)))), h2957, h2961, d2959, w2962, hw⟩
      · intro σ H2963 hw
        obtain ⟨sums_2829, vs2830, u2831, G2969, rfl, eG2970, S2964, h2965, h2966, d2967, w2968, hw⟩ := hw
        have hw := hK2828 _ (cW_forS0 (by rw [(OwAll.rpA w2968 (encO_L encO_I) S2964.sG).len, List.length_map]) hw)
        have hw : cW (F_quarter_area_r5 (height') (top') ((PySem.Builtin.bitAnd (y') (3))) (sums_2829)) _ EE := hw
        unfold F_quarter_area_r5 at hw
        obtain ⟨G2972, eG2973, hg2974, S2975⟩ := Sep.freeze (O' := (a2806 :: (L2808 ++ []))) S2964 (.head _) h2965 fr2800 ((all_cons ⟨(.tail _ (.head _)), (ne_of_none h2799 n2810).symm⟩ (all_app (fun b hb => ⟨((fun b hb => (.tail _ (.tail _ (List.mem_append_left _ hb)))) : ∀ b ∈ L2808, b ∈ (p2793 :: (a2806 :: (L2808 ++ [])))) b hb, (new_ne2 nb2811 (S2801.ow _ (.head _)).2.1) b hb⟩) all_nil)))
        obtain ⟨g2976, hw⟩ := cW_grd hw
        obtain ⟨K2981, hK2982, hw⟩ := cW_push hw
        refine ⟨_, rfl, _, rfl, g2976.1, g2976.2, fun D2983 n2984 => lc_range (lo := 0) (n := Int.toNat (height')) (fun i H' => ∃ (G' : Hp) (acc2986 : (List (List Int))) (vs2987 : List V) (L2985 : List Addr), Same G2972 G' ∧ Sep [] H G G' H' (D2983 :: (L2985 ++ [])) ∧ H' D2983 = some (.lst vs2987) ∧ OwAll G' H' L2985 vs2987 ((acc2986 : (List (List Int))).map (oL oI)) ∧ (∀ b ∈ L2985, H2963 b = none) ∧ (∀ b ∈ L2985, b ≠ D2983) ∧ Same H2963 H' ∧ cW (mapA (List.drop i (rng (0) (Int.toNat (height')))) acc2986 (fun x => noEr (F_quarter_area_c7 (top') ((PySem.Builtin.bitAnd (y') (3))) (sums_2829) x))) K2981 EE) ?_ ?_ ?_⟩
        · generalize g2988 : upd H2963 D2983 _ = H2989
          obtain ⟨e2990, h2991⟩ := gen_new n2984 g2988
          have fr2992 := S2975.free n2984
          have S2993 := S2975.new n2984 e2990 h2991 fr2992
          exact ⟨_, [], [], [], Same.refl _, (S2993.sub (all_cons (.head _) (all_app (L := []) all_nil all_nil))), h2991, OwAll.nil, all_nil, all_nil, e2990, hw⟩
        · intro i H2994 hi hw
          obtain ⟨G2997, acc2999, vs3000, L3002, eG2998, S2995, h2996, d3001, nb3003, nd3004, eo3005, hw⟩ := hw
          obtain ⟨z3006, hw⟩ := cW_mapA (rng_get hi) hw
          generalize (0 + (i : Int)) = x3007 at hw ⊢
          have hw := cW_noEr hw
          have hw : cW (F_quarter_area_c7 (top') ((PySem.Builtin.bitAnd (y') (3))) (sums_2829) (x3007)) _ (fun _ => False) := hw
          unfold F_quarter_area_c7 at hw
          refine ⟨rfl, ?_⟩
          refine tyes_go ?_
          obtain ⟨g3009, hw⟩ := cW_grd hw
          refine ⟨_, rfl, _, _, _, _, rfl, rfl, (T.ts_WEIGHTS _), (atI_map (xs := ([AD.t_WEIGHTS_0, AD.t_WEIGHTS_1, AD.t_WEIGHTS_2, AD.t_WEIGHTS_3] : List Addr)) (by show -(4 : Int) ≤ _ ∧ _ < (4 : Int); exact ⟨by have := g3009.1; omega, g3009.2⟩)), _, rfl, _, rfl, _, rfl, _, rfl, _, _, rfl, rfl, _, rfl, _, _, rfl, (SqL.of (S2995.sG _ _ (eG2998 _ _ hg2974))), fun p3010 n3011 => ?_⟩
          generalize g3012 : upd H2994 p3010 _ = H3013
          obtain ⟨e3014, h3015⟩ := gen_new n3011 g3012
          have h3016 : H3013 p3010 = some (.lst (cutV (vs2830) (some (x3007)) (some ((x3007 + 6))))) := h3015
          have fr3017 := S2995.free n3011
          have S3018 := S2995.new n3011 e3014 h3016 fr3017
          have d3019 : RpAll G2997 (cutV (vs2830) (some (x3007)) (some ((x3007 + 6)))) ((cutL (sums_2829) (some (x3007)) (some ((x3007 + 6))) : (List (List Int))).map (encL PyData.int)) := cut_all (some (x3007)) (some ((x3007 + 6))) (RpAll.mono eG2998 (RpAll.mono eG2973 d2967))
          refine ⟨rfl, rfl, G2997, _, _, _, _, rfl, S3018.sG, (T.tt_WEIGHTS _ g3009.1 g3009.2), (Rp.hide_nil (rp_mk_list h3016 (RpAll.mono S3018.sG d3019))), cW_call hw (fun v3020 hw p3023 H3021 n3024 e3022 h3025 => ?_) (fun e he => he.elim)⟩
          have h3026 : H3021 p3023 = some (.lst ((v3020 : (List Int)).map V.int)) := h3025
          have fr3027 := S3018.free n3024
          have S3028 := S3018.new n3024 e3022 h3026 fr3027
          obtain ⟨K3031, hK3032, hw⟩ := cW_push hw
          refine ⟨_, rfl, ⟨_, (SqL.of h3026)⟩, fun D3033 n3034 => lc_list (K := K) (a := p3023) (xs := (v3020 : (List Int)).map V.int) (fun i2 H' => ∃ (G' : Hp) (acc3036 : (List Int)), Same G2997 G' ∧ Sep [] H G G' H' (D3033 :: (D2983 :: (p3023 :: (L3002 ++ [])))) ∧ H' D2983 = some (.lst (vs3000)) ∧ H' p3023 = some (.lst ((v3020 : (List Int)).map V.int)) ∧ H' D3033 = some (.lst ((acc3036 : (List Int)).map V.int)) ∧ OwAll G' H' L3002 (vs3000) ((acc2999 : (List (List Int))).map (oL oI)) ∧ Same H3021 H' ∧ cW (mapA (List.drop i2 (v3020)) acc3036 (fun x => noEr (F_quarter_area_c8 (top') x))) K3031 (fun _ => False)) ?_ ?_ ?_ ?_⟩
          · generalize g3038 : upd H3021 D3033 _ = H3039
            obtain ⟨e3040, h3041⟩ := gen_new n3034 g3038
            have fr3042 := S3028.free n3034
            have S3043 := S3028.new n3034 e3040 h3041 fr3042
            have h3044 := (e3040 _ _ (e3022 _ _ (e3014 _ _ h2996)))
            have h3045 := (e3040 _ _ h3026)
            have w3046 : OwAll G2997 H3039 L3002 (vs3000) ((acc2999 : (List (List Int))).map (oL oI)) := (OwAll.mono (Same.refl _) (keeps_same e3040) (OwAll.mono (Same.refl _) (keeps_same e3022) (OwAll.mono (Same.refl _) (keeps_same e3014) d3001)))
            exact ⟨_, [], Same.refl _, (S3043.sub (all_cons (.head _) (all_cons (.tail _ (.tail _ (.tail _ (.head _)))) (all_cons (.tail _ (.head _)) (all_app ((fun b hb => (.tail _ (.tail _ (.tail _ (.tail _ (List.mem_append_left _ hb)))))) : ∀ b ∈ L3002, b ∈ (D3033 :: (p3023 :: (p3010 :: (D2983 :: (L3002 ++ [])))))) all_nil))))), h3044, h3045, h3041, w3046, e3040, hw⟩
          · intro i2 H3047 _ hw
            obtain ⟨G3050, acc3052, eG3051, S3048, h3059, h3060, h3049, w3061, eo3058, hw⟩ := hw
            exact (SqL.of h3060)
          · intro i2 x H3062 hj hw
            obtain ⟨G3065, acc3067, eG3066, S3063, h3074, h3075, h3064, w3076, eo3073, hw⟩ := hw
            obtain ⟨x3077, hx, rfl⟩ := map_get hj
            obtain ⟨z3078, hw⟩ := cW_mapA hx hw
            have hw := cW_noEr hw
            have hw : cW (F_quarter_area_c8 (top') (x3077)) _ (fun _ => False) := hw
            unfold F_quarter_area_c8 at hw
            refine ⟨rfl, ?_⟩
            refine tyes_go ?_
            refine ⟨_, rfl, _, _, rfl, rfl, _, _, rfl, rfl, (show (0 : Int) ≤ 12 by decide), _, rfl, rfl, rfl, G3065, _, _, _, rfl, S3063.sG, cW_call hw (fun v3080 hw => ?_) (fun e he => he.elim)⟩
            refine ⟨_, h3064, (app_lenM z3078), ?_⟩
            generalize g3081 : upd H3062 D3033 _ = H3082
            obtain ⟨x3083, h3084⟩ := gen_mut g3081
            have S3085 := S3063.mut1 x3083 (.head _) h3084
            have hw := cW_ok hw
            have h3086 := (x3083 _ _ h3074 (ne_of_none (e3022 _ _ (e3014 _ _ h2996)) n3034))
            have h3087 := (x3083 _ _ h3075 (ne_of_none h3026 n3034))
            have w3088 : OwAll G3065 H3082 L3002 (vs3000) ((acc2999 : (List (List Int))).map (oL oI)) := (OwAll.mono (Same.refl _) (keeps_mut x3083 ((there_ne (fun b_ hb_ => (S3028.ow b_ (((fun b hb => (.tail _ (.tail _ (.tail _ (List.mem_append_left _ hb))))) : ∀ b ∈ L3002, b ∈ (p3023 :: (p3010 :: (D2983 :: (L3002 ++ []))))) b_ hb_)).2.1) n3034) : ∀ b ∈ L3002, b ≠ D3033)) w3076)
            exact ⟨_, (acc3067 ++ [v3080]), eG3066, S3085, h3086, h3087, (snoc_map h3084), w3088, (same_mut eo3073 x3083 n3034), hw⟩
          intro H3089 hw
          obtain ⟨G3092, acc3094, eG3093, S3090, h3101, h3102, h3091, w3103, eo3100, hw⟩ := hw
          have hw := hK3032 _ (cW_mapA0 (by rw [List.length_map]) hw)
          have fr3104 := S3028.free n3034
          refine ⟨_, h3101, (app_len (OwAll.rpA w3103 (encO_L encO_I) S3090.sG) z3006), ?_⟩
          generalize g3105 : upd H3089 D2983 _ = H3106
          obtain ⟨x3107, h3108⟩ := gen_mut g3105
          have S3109 := S3090.mut1 x3107 (.tail _ (.head _)) h3108
          have hw := cW_ok hw
          exact ⟨_, (acc2999 ++ [acc3094]), _, (L3002 ++ (D3033 :: ([] : List Addr))), (Same.trans eG2998 eG3093), (S3109.sub (all_cons (.tail _ (.head _)) (all_app (all_app ((fun b hb => (.tail _ (.tail _ (.tail _ (List.mem_append_left _ hb))))) : ∀ b ∈ L3002, b ∈ (D3033 :: (D2983 :: (p3023 :: (L3002 ++ []))))) (all_cons (.head _) all_nil)) all_nil))), h3108, (OwAll.mono (Same.refl _) (keeps_mut x3107 ((all_app nd3004 (all_cons (ne_of_none (e3022 _ _ (e3014 _ _ h2996)) n3034).symm all_nil)) : ∀ b ∈ (L3002 ++ (D3033 :: ([] : List Addr))), b ≠ D2983)) (OwAll.snocM w3103 (Ow.ints h3091) ((fun b hb => (nm_cons ((there_ne (fun b_ hb_ => (S3028.ow b_ (((fun b hb => (.tail _ (.tail _ (.tail _ (List.mem_append_left _ hb))))) : ∀ b ∈ L3002, b ∈ (p3023 :: (p3010 :: (D2983 :: (L3002 ++ []))))) b_ hb_)).2.1) n3034) b hb) nm_nil)) : ∀ b ∈ L3002, b ∉ (D3033 :: ([] : List Addr))))), ((all_app nb3003 (all_cons (none_of_same (Same.trans (Same.trans eo3005 e3014) e3022) n3034) all_nil)) : ∀ b ∈ (L3002 ++ (D3033 :: ([] : List Addr))), H2963 b = none), ((all_app nd3004 (all_cons (ne_of_none (e3022 _ _ (e3014 _ _ h2996)) n3034).symm all_nil)) : ∀ b ∈ (L3002 ++ (D3033 :: ([] : List Addr))), b ≠ D2983), (same_mut (Same.trans (Same.trans (Same.trans eo3005 e3014) e3022) eo3100) x3107 n2984), hw⟩
        intro H3110 hw
        obtain ⟨G3113, acc3115, vs3116, L3118, eG3114, S3111, h3112, d3117, nb3119, nd3120, eo3121, hw⟩ := hw
        have hw := hK2982 _ (cW_mapA0 (rng_len _ _).symm hw)
        have fr3122 := S2975.free n2984
        have hw := cW_ok hw
        exact hK0 _ hw _ _ _ _ _ fr3122 ((fun b hb => Sep.h0 S3111 (((fun b hb => (.tail _ (List.mem_append_left _ hb))) : ∀ b ∈ L3118, b ∈ (D2983 :: (L3118 ++ []))) b hb) nm_nil) : ∀ b ∈ L3118, H b = none) (nd3120 : ∀ b ∈ L3118, b ≠ D2983) S3111.b0 S3111.g0 S3111.sG S3111.gn (S3111.ow _ (.head _)).1 ((fun b hb => (S3111.ow b (((fun b hb => (.tail _ (List.mem_append_left _ hb))) : ∀ b ∈ L3118, b ∈ (D2983 :: (L3118 ++ []))) b hb)).1) : ∀ b ∈ L3118, G3113 b = none) h3112 d3117

abbrev N_eighth_area : List Str := ["plane", "x", "y", "width", "height", "top", "f", "g", "sums", "row", "a", "b", "upper", "lower", "c"]
theorem sc_eighth_area : FnScope N_eighth_area ["plane", "x", "y", "width", "height", "top"] (defScope s_eighth_area) := ⟨rfl, rfl, rfl, by decide +kernel, rfl, by decide +kernel, by decide +kernel⟩
theorem ok_eighth_area (D : DefX K mg "eighth_area" s_eighth_area ["plane", "x", "y", "width", "height", "top"] pats_eighth_area) (T : Txt w K mg AD) (c__samples : CalX P w K mg base 2 "_samples" (sp__samples K AD) pats__samples) : CalX P w K mg base 3 "eighth_area" (sp_eighth_area K AD) pats_eighth_area := by
  refine D.ok sc_eighth_area (fun vs H Q E h => ?_) (fun f cdv A_ outer s H vs Q E hr h => ?_)
  · obtain ⟨G, v_plane, plane', x', y', width', height', top', rfl, _⟩ := h
    rfl
  · obtain ⟨G, v_plane, plane', x', y', width', height', top', rfl, sG, r_plane, hw⟩ := h
    refine ⟨_, (pss_cons (ps_set (i := 6) sc_eighth_area.nd rfl (Or.inr rfl) (pe_op op_and (pv 1) pe_int))
      (pss_cons (ps_set (i := 7) sc_eighth_area.nd rfl (Or.inr rfl) (pe_op op_and (pv 2) pe_int))
      (pss_cons (ps_set (i := 8) sc_eighth_area.nd rfl (Or.inl rfl) (pe_lst pa_nil))
      (pss_cons (ps_for (passes_of rfl) rfl (pi_listK (K := K) (vx_callX c__samples pat__samples_0 (.head _) hr (by decide) (takes_of rfl rfl rfl rfl) rfl (pa_cons (pv 0) (pa_cons (pe_op op_shr (pv 1) pe_int) (pa_cons (pe_op op_shr (pv 2) pe_int) (pa_cons (pe_op op_add (pv 3) pe_int) (pa_cons (pe_op op_add (pv 4) pe_int) pa_nil))))) pk_nil)) (pg_name (i := 9) sc_eighth_area.nd rfl (Or.inl rfl)) (pss_one (ps_expr (pe_bm PySem.F.plainAttrs_list PySem.F.slot_list_append PySem.F.type_list_append mt_append (pv 8) (pa_cons (pe_lc (own := [("a", 10), ("b", 11)]) (g := gTup K 2 (gCons (gName 10) (gCons (gName 11) gNil))) (by rfl) sc_eighth_area.nd (pi_zipK (K := K) rfl T.b_zip (pa_cons (pv 9) (pa_cons (pe_slice (sl_listK (K := K)) (pv 9) (po_some pe_int) po_none) pa_nil))) (blkOk_by (own := [("a", 10), ("b", 11)]) (N := N_eighth_area) (sc := defScope s_eighth_area) (by decide +kernel)) (fun _ _ _ _ _ => (pg_tupK (K := K) (n := 2) (pgs_cons (pg_name (i := 10) sc_eighth_area.nd rfl (Or.inl rfl)) (pgs_cons (pg_name (i := 11) sc_eighth_area.nd rfl (Or.inl rfl)) pgs_nil)))) (fun _ _ _ _ _ => pts_nil) (fun _ _ _ _ _ => (pe_op op_add (pe_op op_mul (pe_op op_sub pe_int (pv 6)) (pv 10)) (pe_op op_mul (pv 6) (pv 11))))) pa_nil)))))
      (pss_one (ps_ret (pe_lc (own := [("upper", 12), ("lower", 13)]) (g := gTup K 2 (gCons (gName 12) (gCons (gName 13) gNil))) (by rfl) sc_eighth_area.nd (pi_zipK (K := K) rfl T.b_zip (pa_cons (pv 8) (pa_cons (pe_slice (sl_listK (K := K)) (pv 8) (po_some pe_int) po_none) pa_nil))) (blkOk_by (own := [("upper", 12), ("lower", 13)]) (N := N_eighth_area) (sc := defScope s_eighth_area) (by decide +kernel)) (fun _ _ _ _ _ => (pg_tupK (K := K) (n := 2) (pgs_cons (pg_name (i := 12) sc_eighth_area.nd rfl (Or.inl rfl)) (pgs_cons (pg_name (i := 13) sc_eighth_area.nd rfl (Or.inl rfl)) pgs_nil)))) (fun _ _ _ _ _ => pts_nil) (fun _ _ _ _ _ => (pe_lc (own := [("a", 10), ("c", 14)]) (g := gTup K 2 (gCons (gName 10) (gCons (gName 14) gNil))) (by rfl) sc_eighth_area.nd (pi_zipK (K := K) rfl T.b_zip (pa_cons (pv 12) (pa_cons (pv 13) pa_nil))) (blk_relabel (blkOk_by (own := [("a", 10), ("c", 14)]) (N := N_eighth_area) (by decide +kernel))) (fun _ _ _ _ _ => (pg_tupK (K := K) (n := 2) (pgs_cons (pg_name (i := 10) sc_eighth_area.nd rfl (Or.inl rfl)) (pgs_cons (pg_name (i := 14) sc_eighth_area.nd rfl (Or.inl rfl)) pgs_nil)))) (fun _ _ _ _ _ => pts_nil) (fun _ _ _ _ _ => (pe_op op_shr (pe_op op_add (pe_op op_add (pe_op op_mul (pe_op op_sub pe_int (pv 7)) (pv 10)) (pe_op op_mul (pv 7) (pv 14))) pe_int) pe_int))))))))))), ?_⟩
    obtain ⟨KK, EE, hK0, hE, hw⟩ := cW_gen hw
    have S0 := Sep.startG sG
    unfold F_eighth_area at hw
    obtain ⟨a3123, vs3124, rfl, h3125, d3126⟩ := rp_list r_plane
    refine ⟨_, rfl, _, _, rfl, rfl, ?_⟩
    have hw := cW_bnd hw
    refine ⟨_, rfl, _, _, rfl, rfl, ?_⟩
    have hw := cW_bnd hw
    refine ⟨(by show 0 ≤ sizeLine; decide), fun p3129 n3130 => ?_⟩
    generalize g3131 : upd H p3129 _ = H3132
    obtain ⟨e3133, h3134⟩ := gen_new n3130 g3131
    have h3135 : H3132 p3129 = some (.lst ([])) := h3134
    have fr3136 := S0.free n3130
    have S3137 := S0.new n3130 e3133 h3135 fr3136
    have d3138 : RpAll G ([]) ((([] : (List (List Int))) : (List (List Int))).map (encL PyData.int)) := RpAll.nil
    refine ⟨_, rfl, _, rfl, _, _, rfl, rfl, (show (0 : Int) ≤ 3 by decide), _, rfl, _, _, rfl, rfl, (show (0 : Int) ≤ 3 by decide), _, rfl, _, _, rfl, rfl, _, rfl, _, _, rfl, rfl, rfl, rfl, G, _, _, _, _, _, _, rfl, S3137.sG, (Rp.hide_nil (rp_mk_list (S3137.bM _ _ h3125) (RpAll.mono S3137.bM d3126))), cW_call hw (fun v3139 hw H3140 a3142 vs3143 L3144 G3145 n3146 nb3147 nd3148 e3141 eG3149 sG3150 hn3151 ga3152 gL3153 h3154 w3155 => ?_) (fun e he H2 e2 => hE e he H2 (Same.trans S3137.b0 e2))⟩
    have fr3156 := S3137.free n3146
    have S3157 : Sep _ _ _ _ H3140 (a3142 :: (L3144 ++ (p3129 :: []))) := Sep.steptree S3137 e3141 eG3149 sG3150 hn3151 (a3142 :: L3144) (all_cons ⟨n3146, ga3152, some_ne h3154⟩ (fun b hb => ⟨nb3147 b hb, gL3153 b hb, OwAll.there w3155 b hb⟩))
    obtain ⟨K3160, hK3161, hw⟩ := cW_push hw
    refine ⟨_, rfl, ⟨_, (SqL.of h3154)⟩, for_list (K := K) (a := a3142) (xs := vs3143) (fun i σ H' => ∃ (sums_3162 : (List (List Int))) (vs3163 : List V) (u3164 : Option V) (G' : Hp), σ = [some (V.ref a3123), some (V.int (x')), some (V.int (y')), some (V.int (width')), some (V.int (height')), some (V.int (top')), some (V.int ((PySem.Builtin.bitAnd (x') (7)))), some (V.int ((PySem.Builtin.bitAnd (y') (7)))), some (V.ref p3129), u3164, none, none, none, none, none] ∧ Same G3145 G' ∧ Sep [] H G G' H' (p3129 :: (a3142 :: (L3144 ++ []))) ∧ H' p3129 = some (.lst (vs3163)) ∧ H' a3142 = some (.lst (vs3143)) ∧ RpAll G' (vs3163) ((sums_3162 : (List (List Int))).map (encL PyData.int)) ∧ OwAll G' H' L3144 (vs3143) ((v3139 : (List (List Int))).map (oL oI)) ∧ cW (forS (List.drop i (v3139)) sums_3162 (fun s x => F_eighth_area_b1 ((PySem.Builtin.bitAnd (x') (7))) s x)) K3160 EE) ?_ ?_ ?_ ?_⟩
    · have h3165 := (e3141 _ _ h3135)
      exact ⟨(([] : (List (List Int)))), _, _, _, rfl, (Same.refl _), (S3157.sub (all_cons (.tail _ (List.mem_append_right _ (.head _))) (all_cons (.head _) (all_app ((fun b hb => (.tail _ (List.mem_append_left _ hb))) : ∀ b ∈ L3144, b ∈ (a3142 :: (L3144 ++ (p3129 :: [])))) all_nil)))), h3165, h3154, (RpAll.mono eG3149 d3138), w3155, hw⟩
    · intro i σ H3166 _ hw
      obtain ⟨sums_3162, vs3163, u3164, G3172, rfl, eG3173, S3167, h3168, h3169, d3170, w3171, hw⟩ := hw
      exact (SqL.of h3169)
    · intro i x σ H3174 hj hw
      obtain ⟨sums_3162, vs3163, u3164, G3180, rfl, eG3181, S3175, h3176, h3177, d3178, w3179, hw⟩ := hw
      obtain ⟨x3182, L3183, hx, w3184, hs3185⟩ := OwAll.turn w3179 hj
      obtain ⟨b3186, rfl, rfl, h3187⟩ := Ow.toInts w3184
      have hv3188 := hj
      have hx3189 := hx
      have hw := cW_forS hx hw
      have hw : cW (F_eighth_area_b1 ((PySem.Builtin.bitAnd (x') (7))) (sums_3162) (x3182)) _ EE := hw
      unfold F_eighth_area_b1 at hw
      obtain ⟨K3191, hK3192, hw⟩ := cW_name hw
      refine ⟨_, rfl, (.inl ⟨rfl, _, SqL.of h3176⟩), _, rfl, _, rfl, _, rfl, _, _, rfl, (SqL.of h3187), fun p3194 n3195 => ?_⟩
      generalize g3196 : upd H3174 p3194 _ = H3197
      obtain ⟨e3198, h3199⟩ := gen_new n3195 g3196
      have h3200 : H3197 p3194 = some (.lst ((cutL (x3182) (some (1)) none : (List Int)).map V.int)) := cut_map h3199
      have fr3201 := S3175.free n3195
      have S3202 := S3175.new n3195 e3198 h3200 fr3201
      have h3203 := (e3198 _ _ h3187)
      obtain ⟨K3206, hK3207, hw⟩ := cW_push hw
      refine ⟨_, _, _, _, rfl, .inl ⟨(SqL.of h3203), (SqL.of h3200), fun D3208 n3209 => lc_zipM (K := K) (a := b3186) (b := p3194) (xs := (x3182 : List Int).map V.int) (ys := (cutL (x3182) (some (1)) none : (List Int)).map V.int) (min ((x3182 : (List Int)).length) ((cutL (x3182) (some (1)) none : (List Int)).length)) (zipM_n (by rw [List.length_map]) (by rw [List.length_map])) (fun i H' => ∃ (G' : Hp) (acc3211 : (List Int)), Same G3180 G' ∧ Sep [] H G G' H' (D3208 :: (a3142 :: (p3129 :: (p3194 :: (L3144 ++ []))))) ∧ H' a3142 = some (.lst (vs3143)) ∧ H' p3129 = some (.lst (vs3163)) ∧ H' p3194 = some (.lst ((cutL (x3182) (some (1)) none : (List Int)).map V.int)) ∧ H' D3208 = some (.lst ((acc3211 : (List Int)).map V.int)) ∧ OwAll G' H' L3144 (vs3143) ((v3139 : (List (List Int))).map (oL oI)) ∧ Same H3197 H' ∧ cW (mapA (List.drop i (List.zip (x3182) (cutL (x3182) (some (1)) none))) acc3211 (fun x => noEr (F_eighth_area_c2 ((PySem.Builtin.bitAnd (x') (7))) x))) K3206 EE) ?_ ?_ ?_ ?_⟩⟩
      · generalize g3213 : upd H3197 D3208 _ = H3214
        obtain ⟨e3215, h3216⟩ := gen_new n3209 g3213
        have fr3217 := S3202.free n3209
        have S3218 := S3202.new n3209 e3215 h3216 fr3217
        have h3219 := (e3215 _ _ (e3198 _ _ h3177))
        have h3220 := (e3215 _ _ (e3198 _ _ h3176))
        have h3221 := (e3215 _ _ h3200)
        have w3222 : OwAll G3180 H3214 L3144 (vs3143) ((v3139 : (List (List Int))).map (oL oI)) := (OwAll.mono (Same.refl _) (keeps_same e3215) (OwAll.mono (Same.refl _) (keeps_same e3198) w3179))
        exact ⟨_, [], Same.refl _, (S3218.sub (all_cons (.head _) (all_cons (.tail _ (.tail _ (.tail _ (.head _)))) (all_cons (.tail _ (.tail _ (.head _))) (all_cons (.tail _ (.head _)) (all_app ((fun b hb => (.tail _ (.tail _ (.tail _ (.tail _ (List.mem_append_left _ hb)))))) : ∀ b ∈ L3144, b ∈ (D3208 :: (p3194 :: (p3129 :: (a3142 :: (L3144 ++ [])))))) all_nil)))))), h3219, h3220, h3221, h3216, w3222, e3215, hw⟩
      · intro i H3223 _ hw
        obtain ⟨G3226, acc3228, eG3227, S3224, h3235, h3236, h3237, h3225, w3238, eo3234, hw⟩ := hw
        have h3239 := (eo3234 _ _ h3203)
        exact ⟨(SqL.of h3239), (SqL.of h3237)⟩
      · intro i x y T3242 H3240 hj hj2 n3241 hw
        obtain ⟨G3245, acc3247, eG3246, S3243, h3254, h3255, h3256, h3244, w3257, eo3253, hw⟩ := hw
        obtain ⟨x3258, hx3259, rfl⟩ := map_get hj
        obtain ⟨x3260, hx3261, rfl⟩ := map_get hj2
        generalize g3262 : upd H3240 T3242 _ = H3263
        obtain ⟨e3264, h3265⟩ := gen_new n3241 g3262
        have h3266 : H3263 T3242 = some (.tup [V.int (x3258), V.int (x3260)]) := h3265
        have fr3267 := S3243.free n3241
        obtain ⟨G3269, eG3270, hg3271, S3268⟩ := S3243.grow n3241 e3264 h3266 fr3267
        obtain ⟨z3272, hw⟩ := cW_mapA (zip_get hx3259 hx3261) hw
        have hw := cW_noEr hw
        have hw : cW (F_eighth_area_c2 ((PySem.Builtin.bitAnd (x') (7))) ((x3258, x3260))) _ (fun _ => False) := hw
        unfold F_eighth_area_c2 at hw
        refine ⟨_, _, rfl, (SqT.of (S3268.sG _ _ hg3271)), rfl, _, _, rfl, _, _, rfl, rfl, rfl, ?_⟩
        refine tyes_go ?_
        obtain ⟨g3274, hw⟩ := cW_grd hw
        obtain ⟨g3275, hw⟩ := cW_grd hw
        have h3276 := (e3264 _ _ h3244)
        refine ⟨_, rfl, _, _, rfl, rfl, _, rfl, _, _, rfl, rfl, g3274, _, rfl, _, rfl, _, _, rfl, rfl, g3275, _, _, rfl, rfl, _, h3276, (app_lenM z3272), ?_⟩
        generalize g3277 : upd H3263 D3208 _ = H3278
        obtain ⟨x3279, h3280⟩ := gen_mut g3277
        have S3281 := S3268.mut1 x3279 (.head _) h3280
        have hw := cW_ok hw
        have h3282 := (x3279 _ _ (e3264 _ _ h3254) (ne_of_none (e3198 _ _ h3177) n3209))
        have h3283 := (x3279 _ _ (e3264 _ _ h3255) (ne_of_none (e3198 _ _ h3176) n3209))
        have h3284 := (x3279 _ _ (e3264 _ _ h3256) (ne_of_none h3200 n3209))
        have w3285 : OwAll G3269 H3278 L3144 (vs3143) ((v3139 : (List (List Int))).map (oL oI)) := (OwAll.mono eG3270 keeps_refl (OwAll.mono (Same.refl _) (keeps_mut x3279 ((there_ne (fun b_ hb_ => (S3202.ow b_ (((fun b hb => (.tail _ (.tail _ (.tail _ (List.mem_append_left _ hb))))) : ∀ b ∈ L3144, b ∈ (p3194 :: (p3129 :: (a3142 :: (L3144 ++ []))))) b_ hb_)).2.1) n3209) : ∀ b ∈ L3144, b ≠ D3208)) (OwAll.mono (Same.refl _) (keeps_same e3264) w3257)))
        exact ⟨_, (acc3247 ++ [(((8 - (PySem.Builtin.bitAnd (x') (7))) * x3258) + ((PySem.Builtin.bitAnd (x') (7)) * x3260))]), (Same.trans eG3246 eG3270), S3281, h3282, h3283, h3284, (snoc_map h3280), w3285, (same_mut (Same.trans eo3253 e3264) x3279 n3209), hw⟩
      intro H3286 hw
      obtain ⟨G3289, acc3291, eG3290, S3287, h3298, h3299, h3300, h3288, w3301, eo3297, hw⟩ := hw
      have hw := hK3207 _ (cW_mapA0 zipM_len hw)
      have fr3302 := S3202.free n3209
      obtain ⟨g3303, hw⟩ := cW_grd hw
      obtain ⟨G3304, eG3305, hg3306, S3307⟩ := Sep.freeze (O' := (a3142 :: (p3129 :: (p3194 :: (L3144 ++ []))))) S3287 (.head _) h3288 fr3302 ((all_cons ⟨(.tail _ (.head _)), (ne_of_none (e3198 _ _ h3177) n3209)⟩ (all_cons ⟨(.tail _ (.tail _ (.head _))), (ne_of_none (e3198 _ _ h3176) n3209)⟩ (all_cons ⟨(.tail _ (.tail _ (.tail _ (.head _)))), (ne_of_none h3200 n3209)⟩ (all_app (fun b hb => ⟨((fun b hb => (.tail _ (.tail _ (.tail _ (.tail _ (List.mem_append_left _ hb)))))) : ∀ b ∈ L3144, b ∈ (D3208 :: (a3142 :: (p3129 :: (p3194 :: (L3144 ++ [])))))) b hb, (there_ne (fun b_ hb_ => (S3202.ow b_ (((fun b hb => (.tail _ (.tail _ (.tail _ (List.mem_append_left _ hb))))) : ∀ b ∈ L3144, b ∈ (p3194 :: (p3129 :: (a3142 :: (L3144 ++ []))))) b_ hb_)).2.1) n3209) b hb⟩) all_nil)))))
      refine ⟨_, _, _, rfl, rfl, h3299, (app_len (RpAll.mono eG3305 (RpAll.mono eG3290 d3178)) g3303), ?_⟩
      generalize g3308 : upd H3286 p3129 _ = H3309
      obtain ⟨x3310, h3311⟩ := gen_mut g3308
      have h3312 : H3309 p3129 = some (.lst (vs3163 ++ [V.ref D3208])) := h3311
      have S3313 := S3307.mut1 x3310 (.tail _ (.head _)) h3312
      have d3314 : RpAll G3304 (vs3163 ++ [V.ref D3208]) (((sums_3162) ++ [acc3291] : (List (List Int))).map (encL PyData.int)) := app_map (RpAll.mono eG3305 (RpAll.mono eG3290 d3178)) (RpAll.one (rp_mk_ints hg3306))
      have hw := cW_bnd hw
      have hw := cW_ok hw
      have hw := hK3192 _ hw
      have h3316 := (x3310 _ _ h3298 (ne_of_none h3135 n3146).symm)
      have w3317 : OwAll G3304 H3309 L3144 (vs3143) ((v3139 : (List (List Int))).map (oL oI)) := (OwAll.mono eG3305 keeps_refl (OwAll.mono (Same.refl _) (keeps_mut x3310 ((new_ne2 nb3147 (S3137.ow _ (.head _)).2.1) : ∀ b ∈ L3144, b ≠ p3129)) w3301))
      exact ⟨((sums_3162) ++ [acc3291]), _, _, _, rfl, (Same.trans (Same.trans eG3181 eG3290) eG3305), (S3313.sub (all_cons (.tail _ (.head _)) (all_cons (.head _) (all_app ((fun b hb => (.tail _ (.tail _ (.tail _ (List.mem_append_left _ hb))))) : ∀ b ∈ L3144, b ∈ (a3142 :: (p3129 :: (p3194 :: (L3144 ++ []))))) all_nil)))), h3312, h3316, d3314, w3317, hw⟩
    · intro σ H3318 hw
      obtain ⟨sums_3162, vs3163, u3164, G3324, rfl, eG3325, S3319, h3320, h3321, d3322, w3323, hw⟩ := hw
      have hw := hK3161 _ (cW_forS0 (by rw [(OwAll.rpA w3323 (encO_L encO_I) S3319.sG).len, List.length_map]) hw)
      have hw : cW (F_eighth_area_r1 ((PySem.Builtin.bitAnd (y') (7))) (sums_3162)) _ EE := hw
      unfold F_eighth_area_r1 at hw
      obtain ⟨G3327, eG3328, hg3329, S3330⟩ := Sep.freeze (O' := (a3142 :: (L3144 ++ []))) S3319 (.head _) h3320 fr3136 ((all_cons ⟨(.tail _ (.head _)), (ne_of_none h3135 n3146).symm⟩ (all_app (fun b hb => ⟨((fun b hb => (.tail _ (.tail _ (List.mem_append_left _ hb)))) : ∀ b ∈ L3144, b ∈ (p3129 :: (a3142 :: (L3144 ++ [])))) b hb, (new_ne2 nb3147 (S3137.ow _ (.head _)).2.1) b hb⟩) all_nil)))
      refine ⟨_, rfl, _, rfl, _, rfl, _, _, rfl, (SqL.of h3320), fun p3331 n3332 => ?_⟩
      generalize g3333 : upd H3318 p3331 _ = H3334
      obtain ⟨e3335, h3336⟩ := gen_new n3332 g3333
      have h3337 : H3334 p3331 = some (.lst (cutV (vs3163) (some (1)) none)) := h3336
      have fr3338 := S3330.free n3332
      have S3339 := S3330.new n3332 e3335 h3337 fr3338
      have d3340 : RpAll G3327 (cutV (vs3163) (some (1)) none) ((cutL (sums_3162) (some (1)) none : (List (List Int))).map (encL PyData.int)) := cut_all (some (1)) none (RpAll.mono eG3328 d3322)
      obtain ⟨K3343, hK3344, hw⟩ := cW_push hw
      refine ⟨_, _, _, _, rfl, .inl ⟨(SqL.of (S3339.sG _ _ hg3329)), (SqL.of h3337), fun D3345 n3346 => lc_zipM (K := K) (a := p3129) (b := p3331) (xs := vs3163) (ys := cutV (vs3163) (some (1)) none) (min ((sums_3162 : (List (List Int))).length) ((cutL (sums_3162) (some (1)) none : (List (List Int))).length)) (zipM_n (by rw [(RpAll.mono eG3328 d3322).len, List.length_map]) (by rw [d3340.len, List.length_map])) (fun i H' => ∃ (G' : Hp) (acc3348 : (List (List Int))) (vs3349 : List V) (L3347 : List Addr), Same G3327 G' ∧ Sep [] H G G' H' (D3345 :: (L3347 ++ (p3331 :: []))) ∧ H' p3331 = some (.lst (cutV (vs3163) (some (1)) none)) ∧ H' D3345 = some (.lst vs3349) ∧ OwAll G' H' L3347 vs3349 ((acc3348 : (List (List Int))).map (oL oI)) ∧ (∀ b ∈ L3347, H3334 b = none) ∧ (∀ b ∈ L3347, b ≠ D3345) ∧ Same H3334 H' ∧ cW (mapA (List.drop i (List.zip (sums_3162) (cutL (sums_3162) (some (1)) none))) acc3348 (fun x => noEr (F_eighth_area_c3 ((PySem.Builtin.bitAnd (y') (7))) x))) K3343 EE) ?_ ?_ ?_ ?_⟩⟩
      · generalize g3350 : upd H3334 D3345 _ = H3351
        obtain ⟨e3352, h3353⟩ := gen_new n3346 g3350
        have fr3354 := S3339.free n3346
        have S3355 := S3339.new n3346 e3352 h3353 fr3354
        have h3356 := (e3352 _ _ h3337)
        exact ⟨_, [], [], [], Same.refl _, (S3355.sub (all_cons (.head _) (all_app (L := []) all_nil (all_cons (.tail _ (.head _)) all_nil)))), h3356, h3353, OwAll.nil, all_nil, all_nil, e3352, hw⟩
      · intro i H3357 _ hw
        obtain ⟨G3360, acc3362, vs3363, L3365, eG3361, S3358, h3369, h3359, d3364, nb3366, nd3367, eo3368, hw⟩ := hw
        exact ⟨(SqL.of (S3358.sG _ _ (eG3361 _ _ hg3329))), (SqL.of h3369)⟩
      · intro i x y T3372 H3370 hj hj2 n3371 hw
        obtain ⟨G3375, acc3377, vs3378, L3380, eG3376, S3373, h3384, h3374, d3379, nb3381, nd3382, eo3383, hw⟩ := hw
        obtain ⟨x3385, hx3386, r3387⟩ := RpAll.get (RpAll.mono eG3376 (RpAll.mono eG3328 d3322)) hj
        obtain ⟨a3388, rfl, h3389⟩ := rp_ints r3387
        obtain ⟨x3390, hx3391, r3392⟩ := RpAll.get (RpAll.mono eG3376 d3340) hj2
        obtain ⟨a3393, rfl, h3394⟩ := rp_ints r3392
        generalize g3395 : upd H3370 T3372 _ = H3396
        obtain ⟨e3397, h3398⟩ := gen_new n3371 g3395
        have h3399 : H3396 T3372 = some (.tup [V.ref a3388, V.ref a3393]) := h3398
        have fr3400 := S3373.free n3371
        obtain ⟨G3402, eG3403, hg3404, S3401⟩ := S3373.grow n3371 e3397 h3399 fr3400
        obtain ⟨z3405, hw⟩ := cW_mapA (zip_get hx3386 hx3391) hw
        have hw := cW_noEr hw
        have hw : cW (F_eighth_area_c3 ((PySem.Builtin.bitAnd (y') (7))) ((x3385, x3390))) _ (fun _ => False) := hw
        unfold F_eighth_area_c3 at hw
        refine ⟨_, _, rfl, (SqT.of (S3401.sG _ _ hg3404)), rfl, _, _, rfl, _, _, rfl, rfl, rfl, ?_⟩
        refine tyes_go ?_
        obtain ⟨K3409, hK3410, hw⟩ := cW_push hw
        refine ⟨_, rfl, _, rfl, _, _, _, _, rfl, .inl ⟨(SqL.of (S3401.sG _ _ (eG3403 _ _ h3389))), (SqL.of (S3401.sG _ _ (eG3403 _ _ h3394))), fun D3411 n3412 => lc_zipM (K := K) (a := a3388) (b := a3393) (xs := (x3385 : List Int).map V.int) (ys := (x3390 : List Int).map V.int) (min ((x3385 : (List Int)).length) ((x3390 : (List Int)).length)) (zipM_n (by rw [List.length_map]) (by rw [List.length_map])) (fun i2 H' => ∃ (G' : Hp) (acc3414 : (List Int)), Same G3402 G' ∧ Sep [] H G G' H' (D3411 :: (D3345 :: (p3331 :: (L3380 ++ [])))) ∧ H' D3345 = some (.lst (vs3378)) ∧ H' p3331 = some (.lst (cutV (vs3163) (some (1)) none)) ∧ H' D3411 = some (.lst ((acc3414 : (List Int)).map V.int)) ∧ OwAll G' H' L3380 (vs3378) ((acc3377 : (List (List Int))).map (oL oI)) ∧ Same H3396 H' ∧ cW (mapA (List.drop i2 (List.zip (x3385) (x3390))) acc3414 (fun x => noEr (F_eighth_area_c4 ((PySem.Builtin.bitAnd (y') (7))) x))) K3409 (fun _ => False)) ?_ ?_ ?_ ?_⟩⟩
        · generalize g3416 : upd H3396 D3411 _ = H3417
          obtain ⟨e3418, h3419⟩ := gen_new n3412 g3416
          have fr3420 := S3401.free n3412
          have S3421 := S3401.new n3412 e3418 h3419 fr3420
          have h3422 := (e3418 _ _ (e3397 _ _ h3374))
          have h3423 := (e3418 _ _ (e3397 _ _ h3384))
          have w3424 : OwAll G3402 H3417 L3380 (vs3378) ((acc3377 : (List (List Int))).map (oL oI)) := (OwAll.mono eG3403 keeps_refl (OwAll.mono (Same.refl _) (keeps_same e3418) (OwAll.mono (Same.refl _) (keeps_same e3397) d3379)))
          exact ⟨_, [], Same.refl _, (S3421.sub (all_cons (.head _) (all_cons (.tail _ (.head _)) (all_cons (.tail _ (.tail _ (List.mem_append_right _ (.head _)))) (all_app ((fun b hb => (.tail _ (.tail _ (List.mem_append_left _ hb)))) : ∀ b ∈ L3380, b ∈ (D3411 :: (D3345 :: (L3380 ++ (p3331 :: []))))) all_nil))))), h3422, h3423, h3419, w3424, e3418, hw⟩
        · intro i2 H3425 _ hw
          obtain ⟨G3428, acc3430, eG3429, S3426, h3437, h3438, h3427, w3439, eo3436, hw⟩ := hw
          exact ⟨(SqL.of (S3426.sG _ _ (eG3429 _ _ (eG3403 _ _ h3389)))), (SqL.of (S3426.sG _ _ (eG3429 _ _ (eG3403 _ _ h3394))))⟩
        · intro i2 x y T3442 H3440 hj hj2 n3441 hw
          obtain ⟨G3445, acc3447, eG3446, S3443, h3454, h3455, h3444, w3456, eo3453, hw⟩ := hw
          obtain ⟨x3457, hx3458, rfl⟩ := map_get hj
          obtain ⟨x3459, hx3460, rfl⟩ := map_get hj2
          generalize g3461 : upd H3440 T3442 _ = H3462
          obtain ⟨e3463, h3464⟩ := gen_new n3441 g3461
          have h3465 : H3462 T3442 = some (.tup [V.int (x3457), V.int (x3459)]) := h3464
          have fr3466 := S3443.free n3441
          obtain ⟨G3468, eG3469, hg3470, S3467⟩ := S3443.grow n3441 e3463 h3465 fr3466
          obtain ⟨z3471, hw⟩ := cW_mapA (zip_get hx3458 hx3460) hw
          have hw := cW_noEr hw
          have hw : cW (F_eighth_area_c4 ((PySem.Builtin.bitAnd (y') (7))) ((x3457, x3459))) _ (fun _ => False) := hw
          unfold F_eighth_area_c4 at hw
          refine ⟨_, _, rfl, (SqT.of (S3467.sG _ _ hg3470)), rfl, _, _, rfl, _, _, rfl, rfl, rfl, ?_⟩
          refine tyes_go ?_
          obtain ⟨g3473, hw⟩ := cW_grd hw
          obtain ⟨g3474, hw⟩ := cW_grd hw
          have h3475 := (e3463 _ _ h3444)
          refine ⟨_, rfl, _, _, rfl, rfl, _, rfl, _, _, rfl, rfl, g3473, _, rfl, _, rfl, _, _, rfl, rfl, g3474, _, _, rfl, rfl, _, _, rfl, rfl, _, _, rfl, rfl, (show (0 : Int) ≤ 6 by decide), _, h3475, (app_lenM z3471), ?_⟩
          generalize g3476 : upd H3462 D3411 _ = H3477
          obtain ⟨x3478, h3479⟩ := gen_mut g3476
          have S3480 := S3467.mut1 x3478 (.head _) h3479
          have hw := cW_ok hw
          have h3481 := (x3478 _ _ (e3463 _ _ h3454) (ne_of_none (e3397 _ _ h3374) n3412))
          have h3482 := (x3478 _ _ (e3463 _ _ h3455) (ne_of_none (e3397 _ _ h3384) n3412))
          have w3483 : OwAll G3468 H3477 L3380 (vs3378) ((acc3377 : (List (List Int))).map (oL oI)) := (OwAll.mono eG3469 keeps_refl (OwAll.mono (Same.refl _) (keeps_mut x3478 ((there_ne (fun b_ hb_ => (S3401.ow b_ (((fun b hb => (.tail _ (List.mem_append_left _ hb))) : ∀ b ∈ L3380, b ∈ (D3345 :: (L3380 ++ (p3331 :: [])))) b_ hb_)).2.1) n3412) : ∀ b ∈ L3380, b ≠ D3411)) (OwAll.mono (Same.refl _) (keeps_same e3463) w3456)))
          exact ⟨_, (acc3447 ++ [(((((8 - (PySem.Builtin.bitAnd (y') (7))) * x3457) + ((PySem.Builtin.bitAnd (y') (7)) * x3459)) + 32) / 64)]), (Same.trans eG3446 eG3469), S3480, h3481, h3482, (snoc_map h3479), w3483, (same_mut (Same.trans eo3453 e3463) x3478 n3412), hw⟩
        intro H3484 hw
        obtain ⟨G3487, acc3489, eG3488, S3485, h3496, h3497, h3486, w3498, eo3495, hw⟩ := hw
        have hw := hK3410 _ (cW_mapA0 zipM_len hw)
        have fr3499 := S3401.free n3412
        refine ⟨_, h3496, (app_len (OwAll.rpA w3498 (encO_L encO_I) S3485.sG) z3405), ?_⟩
        generalize g3500 : upd H3484 D3345 _ = H3501
        obtain ⟨x3502, h3503⟩ := gen_mut g3500
        have S3504 := S3485.mut1 x3502 (.tail _ (.head _)) h3503
        have hw := cW_ok hw
        have h3505 := (x3502 _ _ h3497 (ne_of_none h3337 n3346))
        exact ⟨_, (acc3377 ++ [acc3489]), _, (L3380 ++ (D3411 :: ([] : List Addr))), (Same.trans (Same.trans eG3376 eG3403) eG3488), (S3504.sub (all_cons (.tail _ (.head _)) (all_app (all_app ((fun b hb => (.tail _ (.tail _ (.tail _ (List.mem_append_left _ hb))))) : ∀ b ∈ L3380, b ∈ (D3411 :: (D3345 :: (p3331 :: (L3380 ++ []))))) (all_cons (.head _) all_nil)) (all_cons (.tail _ (.tail _ (.head _))) all_nil)))), h3505, h3503, (OwAll.mono (Same.refl _) (keeps_mut x3502 ((all_app nd3382 (all_cons (ne_of_none (e3397 _ _ h3374) n3412).symm all_nil)) : ∀ b ∈ (L3380 ++ (D3411 :: ([] : List Addr))), b ≠ D3345)) (OwAll.snocM w3498 (Ow.ints h3486) ((fun b hb => (nm_cons ((there_ne (fun b_ hb_ => (S3401.ow b_ (((fun b hb => (.tail _ (List.mem_append_left _ hb))) : ∀ b ∈ L3380, b ∈ (D3345 :: (L3380 ++ (p3331 :: [])))) b_ hb_)).2.1) n3412) b hb) nm_nil)) : ∀ b ∈ L3380, b ∉ (D3411 :: ([] : List Addr))))), ((all_app nb3381 (all_cons (none_of_same (Same.trans eo3383 e3397) n3412) all_nil)) : ∀ b ∈ (L3380 ++ (D3411 :: ([] : List Addr))), H3334 b = none), ((all_app nd3382 (all_cons (ne_of_none (e3397 _ _ h3374) n3412).symm all_nil)) : ∀ b ∈ (L3380 ++ (D3411 :: ([] : List Addr))), b ≠ D3345), (same_mut (Same.trans (Same.trans eo3383 e3397) eo3495) x3502 n3346), hw⟩
      intro H3506 hw
      obtain ⟨G3509, acc3511, vs3512, L3514, eG3510, S3507, h3518, h3508, d3513, nb3515, nd3516, eo3517, hw⟩ := hw
      have hw := hK3344 _ (cW_mapA0 zipM_len hw)
      have fr3519 := S3339.free n3346
      have hw := cW_ok hw
      exact hK0 _ hw _ _ _ _ _ fr3519 ((fun b hb => Sep.h0 S3507 (((fun b hb => (.tail _ (List.mem_append_left _ hb))) : ∀ b ∈ L3514, b ∈ (D3345 :: (L3514 ++ (p3331 :: [])))) b hb) nm_nil) : ∀ b ∈ L3514, H b = none) (nd3516 : ∀ b ∈ L3514, b ≠ D3345) S3507.b0 S3507.g0 S3507.sG S3507.gn (S3507.ow _ (.head _)).1 ((fun b hb => (S3507.ow b (((fun b hb => (.tail _ (List.mem_append_left _ hb))) : ∀ b ∈ L3514, b ∈ (D3345 :: (L3514 ++ (p3331 :: [])))) b hb)).1) : ∀ b ∈ L3514, G3509 b = none) h3508 d3513

abbrev N_Format_top : List Str := ["self"]
theorem sc_Format_top : FnScope N_Format_top ["self"] (defScope s_Format_top) := ⟨rfl, rfl, rfl, by decide +kernel, rfl, by decide +kernel, by decide +kernel⟩
theorem ok_Format_top (D : PropX K AD.c_Format "Format.top" "top" s_Format_top ["self"] pats_Format_top) (T : Txt w K mg AD)  : PropY P w K mg base 1 AD.c_Format "top" (sp_Format_top K AD) pats_Format_top := by
  refine D.ok T.cl_Format sc_Format_top (fun vs H Q E h => ?_) (fun f cdv A_ outer s H vs Q E hr h => ?_)
  · obtain ⟨G, p_self, dx_self, self', rfl, _⟩ := h
    rfl
  · obtain ⟨G, p_self, dx_self, self', rfl, sG, h_p_self, hw⟩ := h
    refine ⟨_, (pss_one (ps_ret (pe_op op_sub (pe_op op_shlW pe_int (fldK (K := K) (pv 0))) pe_int))), ?_⟩
    obtain ⟨KK, EE, hK0, hE, hw⟩ := cW_gen hw
    have S0 := Sep.startG sG
    unfold F_Format_top at hw
    obtain ⟨g3520, hw⟩ := cW_grd hw
    refine ⟨_, rfl, _, _, _, _, _, rfl, (S0.bM _ _ h_p_self), T.cl_Format, T.n_Format_depth, rfl, _, _, rfl, rfl, (shl_side g3520.1 g3520.2.1 g3520.2.2.1 g3520.2.2.2), _, _, rfl, rfl, ?_⟩
    have hw := cW_ok hw
    exact hK0 _ hw _ S0.b0

abbrev N__predict_vector : List Str := ["fmt", "vector", "reference", "plane", "x", "y", "width", "height", "right", "down", "samples"]
theorem sc__predict_vector : FnScope N__predict_vector ["fmt", "vector", "reference", "plane", "x", "y", "width", "height"] (defScope s__predict_vector) := ⟨rfl, rfl, rfl, by decide +kernel, rfl, by decide +kernel, by decide +kernel⟩
theorem ok__predict_vector (D : DefX K mg "_predict_vector" s__predict_vector ["fmt", "vector", "reference", "plane", "x", "y", "width", "height"] pats__predict_vector) (T : Txt w K mg AD) (c_Format_top : PropY P w K mg base 1 AD.c_Format "top" (sp_Format_top K AD) pats_Format_top) (c_eighth_area : CalX P w K mg base 3 "eighth_area" (sp_eighth_area K AD) pats_eighth_area) (c_quarter_area : CalX P w K mg base 3 "quarter_area" (sp_quarter_area K AD) pats_quarter_area) : CalX P w K mg base 4 "_predict_vector" (sp__predict_vector K AD) pats__predict_vector := by
  refine D.ok sc__predict_vector (fun vs H Q E h => ?_) (fun f cdv A_ outer s H vs Q E hr h => ?_)
  · obtain ⟨G, p_fmt, dx_fmt, fmt', v_vector, vector', v_reference, reference', plane', x', y', width', height', rfl, _⟩ := h
    rfl
  · obtain ⟨G, p_fmt, dx_fmt, fmt', v_vector, vector', v_reference, reference', plane', x', y', width', height', rfl, sG, h_p_fmt, r_vector, r_reference, hw⟩ := h
    refine ⟨_, (pss_cons (ps_asg (pv 1) (pg_tupK (K := K) (n := 2) (pgs_cons (pg_name (i := 8) sc__predict_vector.nd rfl (Or.inl rfl)) (pgs_cons (pg_name (i := 9) sc__predict_vector.nd rfl (Or.inl rfl)) pgs_nil))))
      (pss_cons (ps_set (i := 10) sc__predict_vector.nd rfl (Or.inl rfl) (pe_ix (ix_listK (K := K)) (pv 2) (pv 3) (fun _ _ => rfl)))
      (pss_cons (ps_if (PW.pt (pw_and (pt_cmp (pc_gt (pv 3) pe_int)) (pw_and1 (pt_cmp (pc_eqI (fldK (K := K) (pv 0)) pe_int))))) (pss_one (ps_ret (vx_callX c_eighth_area pat_eighth_area_0 (.head _) hr (by decide) (takes_of rfl rfl rfl rfl) rfl (pa_cons (pv 10) (pa_cons (pe_op op_add (pe_op op_mul pe_int (pv 4)) (pv 8)) (pa_cons (pe_op op_add (pe_op op_mul pe_int (pv 5)) (pv 9)) (pa_cons (pv 6) (pa_cons (pv 7) pa_nil))))) (pk_cons (vx_propX c_Format_top hr (by decide) (pv 0)) pk_nil)))) pss_nil)
      (pss_one (ps_ret (vx_callX c_quarter_area pat_quarter_area_0 (.head _) hr (by decide) (takes_of rfl rfl rfl rfl) rfl (pa_cons (pv 10) (pa_cons (pe_op op_add (pe_op op_mul pe_int (pv 4)) (pv 8)) (pa_cons (pe_op op_add (pe_op op_mul pe_int (pv 5)) (pv 9)) (pa_cons (pv 6) (pa_cons (pv 7) pa_nil))))) (pk_cons (vx_propX c_Format_top hr (by decide) (pv 0)) pk_nil))))))), ?_⟩
    obtain ⟨KK, EE, hK0, hE, hw⟩ := cW_gen hw
    have S0 := Sep.startG sG
    unfold F__predict_vector at hw
    obtain ⟨a3521, v3523, v3524, rfl, h3522, r3525, r3526⟩ := rp_tup2 r_vector
    obtain rfl := rp_int r3525
    obtain rfl := rp_int r3526
    obtain ⟨a3527, vs3528, rfl, h3529, d3530⟩ := rp_list r_reference
    obtain ⟨g3531, hw⟩ := cW_grd hw
    obtain ⟨v3532, a3533, r3534⟩ := RpAll.ixD (k := plane') d3530 g3531
    obtain ⟨a3535, vs3536, rfl, h3537, d3538⟩ := rp_list r3534
    refine ⟨_, rfl, _, _, rfl, (SqT.of (S0.bM _ _ h3522)), rfl, _, _, rfl, _, _, rfl, rfl, _, rfl, _, rfl, _, _, _, _, rfl, rfl, (SqL.of (S0.bM _ _ h3529)), a3533, _, rfl, _, _, rfl, rfl, _, rfl, ?_⟩
    refine iteD (fun c3539 => ?_) (fun c3539 => ?_)
    · have hw := cW_pos c3539 hw
      refine ⟨_, rfl, _, _, _, _, _, rfl, (S0.bM _ _ h_p_fmt), T.cl_Format, T.n_Format_chroma, rfl, _, _, rfl, rfl, _, rfl, ?_⟩
      refine iteD (fun c3540 => ?_) (fun c3540 => ?_)
      · have hw := cW_pos c3540 hw
        refine ⟨_, rfl, _, rfl, _, _, rfl, rfl, (.inl ⟨by decide, by decide⟩), _, rfl, _, _, rfl, rfl, _, rfl, _, _, rfl, rfl, (.inl ⟨by decide, by decide⟩), _, rfl, _, _, rfl, rfl, _, rfl, _, rfl, _, rfl, _, _, _, rfl, (S0.bM _ _ h_p_fmt), G, _, _, fmt', rfl, S0.sG, (hide_nil (S0.bM _ _ h_p_fmt)), cW_callN hw (fun v3541 hw H3542 e3543 => ?_) trivial⟩
        have S3544 := S0.same e3543
        refine ⟨rfl, rfl, G, _, _, _, _, _, _, _, rfl, S3544.sG, (Rp.hide_nil (rp_mk_list (S3544.bM _ _ h3537) (RpAll.mono S3544.bM d3538))), cW_call hw (fun v3545 hw H3546 a3548 vs3549 L3550 G3551 n3552 nb3553 nd3554 e3547 eG3555 sG3556 hn3557 ga3558 gL3559 h3560 w3561 => ?_) (fun e he H2 e2 => hE e he H2 (Same.trans S3544.b0 e2))⟩
        have fr3562 := S3544.free n3552
        have S3563 : Sep _ _ _ _ H3546 (a3548 :: (L3550 ++ [])) := Sep.steptree S3544 e3547 eG3555 sG3556 hn3557 (a3548 :: L3550) (all_cons ⟨n3552, ga3558, some_ne h3560⟩ (fun b hb => ⟨nb3553 b hb, gL3559 b hb, OwAll.there w3561 b hb⟩))
        have hw := cW_ok hw
        exact hK0 _ hw _ _ _ _ _ fr3562 ((fun b hb => Sep.h0 S3563 (((fun b hb => (.tail _ (List.mem_append_left _ hb))) : ∀ b ∈ L3550, b ∈ (a3548 :: (L3550 ++ []))) b hb) nm_nil) : ∀ b ∈ L3550, H b = none) (nd3554 : ∀ b ∈ L3550, b ≠ a3548) S3563.b0 S3563.g0 S3563.sG S3563.gn (S3563.ow _ (.head _)).1 ((fun b hb => (S3563.ow b (((fun b hb => (.tail _ (List.mem_append_left _ hb))) : ∀ b ∈ L3550, b ∈ (a3548 :: (L3550 ++ []))) b hb)).1) : ∀ b ∈ L3550, G3551 b = none) h3560 w3561
      · have hw := cW_neg c3540 hw
        refine ⟨_, rfl, _, rfl, _, _, rfl, rfl, (.inl ⟨by decide, by decide⟩), _, rfl, _, _, rfl, rfl, _, rfl, _, _, rfl, rfl, (.inl ⟨by decide, by decide⟩), _, rfl, _, _, rfl, rfl, _, rfl, _, rfl, _, rfl, _, _, _, rfl, (S0.bM _ _ h_p_fmt), G, _, _, fmt', rfl, S0.sG, (hide_nil (S0.bM _ _ h_p_fmt)), cW_callN hw (fun v3564 hw H3565 e3566 => ?_) trivial⟩
        have S3567 := S0.same e3566
        refine ⟨rfl, rfl, G, _, _, _, _, _, _, _, rfl, S3567.sG, (Rp.hide_nil (rp_mk_list (S3567.bM _ _ h3537) (RpAll.mono S3567.bM d3538))), cW_call hw (fun v3568 hw H3569 a3571 vs3572 L3573 G3574 n3575 nb3576 nd3577 e3570 eG3578 sG3579 hn3580 ga3581 gL3582 h3583 w3584 => ?_) (fun e he H2 e2 => hE e he H2 (Same.trans S3567.b0 e2))⟩
        have fr3585 := S3567.free n3575
        have S3586 : Sep _ _ _ _ H3569 (a3571 :: (L3573 ++ [])) := Sep.steptree S3567 e3570 eG3578 sG3579 hn3580 (a3571 :: L3573) (all_cons ⟨n3575, ga3581, some_ne h3583⟩ (fun b hb => ⟨nb3576 b hb, gL3582 b hb, OwAll.there w3584 b hb⟩))
        have hw := cW_ok hw
        exact hK0 _ hw _ _ _ _ _ fr3585 ((fun b hb => Sep.h0 S3586 (((fun b hb => (.tail _ (List.mem_append_left _ hb))) : ∀ b ∈ L3573, b ∈ (a3571 :: (L3573 ++ []))) b hb) nm_nil) : ∀ b ∈ L3573, H b = none) (nd3577 : ∀ b ∈ L3573, b ≠ a3571) S3586.b0 S3586.g0 S3586.sG S3586.gn (S3586.ow _ (.head _)).1 ((fun b hb => (S3586.ow b (((fun b hb => (.tail _ (List.mem_append_left _ hb))) : ∀ b ∈ L3573, b ∈ (a3571 :: (L3573 ++ []))) b hb)).1) : ∀ b ∈ L3573, G3574 b = none) h3583 w3584
    · have hw := cW_neg c3539 hw
      refine iteF ?_
      refine ⟨_, rfl, _, rfl, _, _, rfl, rfl, (.inl ⟨by decide, by decide⟩), _, rfl, _, _, rfl, rfl, _, rfl, _, _, rfl, rfl, (.inl ⟨by decide, by decide⟩), _, rfl, _, _, rfl, rfl, _, rfl, _, rfl, _, rfl, _, _, _, rfl, (S0.bM _ _ h_p_fmt), G, _, _, fmt', rfl, S0.sG, (hide_nil (S0.bM _ _ h_p_fmt)), cW_callN hw (fun v3587 hw H3588 e3589 => ?_) trivial⟩
      have S3590 := S0.same e3589
      refine ⟨rfl, rfl, G, _, _, _, _, _, _, _, rfl, S3590.sG, (Rp.hide_nil (rp_mk_list (S3590.bM _ _ h3537) (RpAll.mono S3590.bM d3538))), cW_call hw (fun v3591 hw H3592 a3594 vs3595 L3596 G3597 n3598 nb3599 nd3600 e3593 eG3601 sG3602 hn3603 ga3604 gL3605 h3606 w3607 => ?_) (fun e he H2 e2 => hE e he H2 (Same.trans S3590.b0 e2))⟩
      have fr3608 := S3590.free n3598
      have S3609 : Sep _ _ _ _ H3592 (a3594 :: (L3596 ++ [])) := Sep.steptree S3590 e3593 eG3601 sG3602 hn3603 (a3594 :: L3596) (all_cons ⟨n3598, ga3604, some_ne h3606⟩ (fun b hb => ⟨nb3599 b hb, gL3605 b hb, OwAll.there w3607 b hb⟩))
      have hw := cW_ok hw
      exact hK0 _ hw _ _ _ _ _ fr3608 ((fun b hb => Sep.h0 S3609 (((fun b hb => (.tail _ (List.mem_append_left _ hb))) : ∀ b ∈ L3596, b ∈ (a3594 :: (L3596 ++ []))) b hb) nm_nil) : ∀ b ∈ L3596, H b = none) (nd3600 : ∀ b ∈ L3596, b ≠ a3594) S3609.b0 S3609.g0 S3609.sG S3609.gn (S3609.ow _ (.head _)).1 ((fun b hb => (S3609.ow b (((fun b hb => (.tail _ (List.mem_append_left _ hb))) : ∀ b ∈ L3596, b ∈ (a3594 :: (L3596 ++ []))) b hb)).1) : ∀ b ∈ L3596, G3597 b = none) h3606 w3607

abbrev N__mixed : List Str := ["one", "other", "weight", "rest", "row", "twin", "p", "q"]
theorem sc__mixed : FnScope N__mixed ["one", "other", "weight"] (defScope s__mixed) := ⟨rfl, rfl, rfl, by decide +kernel, rfl, by decide +kernel, by decide +kernel⟩
theorem ok__mixed (D : DefX K mg "_mixed" s__mixed ["one", "other", "weight"] pats__mixed) (T : Txt w K mg AD)  : CalX P w K mg base 1 "_mixed" (sp__mixed K AD) pats__mixed := by
  refine D.ok sc__mixed (fun vs H Q E h => ?_) (fun f cdv A_ outer s H vs Q E hr h => ?_)
  · obtain ⟨G, v_one, one', v_other, other', weight', rfl, _⟩ := h
    rfl
  · obtain ⟨G, v_one, one', v_other, other', weight', rfl, sG, r_one, r_other, hw⟩ := h
    refine ⟨_, (pss_cons (ps_set (i := 3) sc__mixed.nd rfl (Or.inr rfl) (pe_op op_sub (C8.pe_gc rfl T.g_WHOLE_WEIGHT) (pv 2)))
      (pss_one (ps_ret (pe_lc (own := [("row", 4), ("twin", 5)]) (g := gTup K 2 (gCons (gName 4) (gCons (gName 5) gNil))) (by rfl) sc__mixed.nd (pi_zipK (K := K) rfl T.b_zip (pa_cons (pv 0) (pa_cons (pv 1) pa_nil))) (blkOk_by (own := [("row", 4), ("twin", 5)]) (N := N__mixed) (sc := defScope s__mixed) (by decide +kernel)) (fun _ _ _ _ _ => (pg_tupK (K := K) (n := 2) (pgs_cons (pg_name (i := 4) sc__mixed.nd rfl (Or.inl rfl)) (pgs_cons (pg_name (i := 5) sc__mixed.nd rfl (Or.inl rfl)) pgs_nil)))) (fun _ _ _ _ _ => pts_nil) (fun _ _ _ _ _ => (pe_lc (own := [("p", 6), ("q", 7)]) (g := gTup K 2 (gCons (gName 6) (gCons (gName 7) gNil))) (by rfl) sc__mixed.nd (pi_zipK (K := K) rfl T.b_zip (pa_cons (pv 4) (pa_cons (pv 5) pa_nil))) (blk_relabel (blkOk_by (own := [("p", 6), ("q", 7)]) (N := N__mixed) (by decide +kernel))) (fun _ _ _ _ _ => (pg_tupK (K := K) (n := 2) (pgs_cons (pg_name (i := 6) sc__mixed.nd rfl (Or.inl rfl)) (pgs_cons (pg_name (i := 7) sc__mixed.nd rfl (Or.inl rfl)) pgs_nil)))) (fun _ _ _ _ _ => pts_nil) (fun _ _ _ _ _ => (pe_op op_shr (pe_op op_add (pe_op op_add (pe_op op_mul (pv 7) (pv 2)) (pe_op op_mul (pv 6) (pv 3))) pe_int) pe_int)))))))), ?_⟩
    obtain ⟨KK, EE, hK0, hE, hw⟩ := cW_gen hw
    have S0 := Sep.startG sG
    unfold F__mixed at hw
    obtain ⟨a3610, vs3611, rfl, h3612, d3613⟩ := rp_list r_one
    obtain ⟨a3614, vs3615, rfl, h3616, d3617⟩ := rp_list r_other
    refine ⟨_, rfl, _, _, rfl, rfl, ?_⟩
    have hw := cW_bnd hw
    obtain ⟨K3622, hK3623, hw⟩ := cW_push hw
    refine ⟨_, rfl, _, rfl, _, _, _, _, rfl, .inl ⟨(SqL.of (S0.bM _ _ h3612)), (SqL.of (S0.bM _ _ h3616)), fun D3624 n3625 => lc_zipM (K := K) (a := a3610) (b := a3614) (xs := vs3611) (ys := vs3615) (min ((one' : (List (List Int))).length) ((other' : (List (List Int))).length)) (zipM_n (by rw [d3613.len, List.length_map]) (by rw [d3617.len, List.length_map])) (fun i H' => ∃ (G' : Hp) (acc3627 : (List (List Int))) (vs3628 : List V) (L3626 : List Addr), Same G G' ∧ Sep [] H G G' H' (D3624 :: (L3626 ++ [])) ∧ H' D3624 = some (.lst vs3628) ∧ OwAll G' H' L3626 vs3628 ((acc3627 : (List (List Int))).map (oL oI)) ∧ (∀ b ∈ L3626, H b = none) ∧ (∀ b ∈ L3626, b ≠ D3624) ∧ Same H H' ∧ cW (mapA (List.drop i (List.zip (one') (other'))) acc3627 (fun x => noEr (F__mixed_c1 (weight') ((16 - weight')) x))) K3622 EE) ?_ ?_ ?_ ?_⟩⟩
    · generalize g3629 : upd H D3624 _ = H3630
      obtain ⟨e3631, h3632⟩ := gen_new n3625 g3629
      have fr3633 := S0.free n3625
      have S3634 := S0.new n3625 e3631 h3632 fr3633
      exact ⟨_, [], [], [], Same.refl _, (S3634.sub (all_cons (.head _) (all_app (L := []) all_nil all_nil))), h3632, OwAll.nil, all_nil, all_nil, e3631, hw⟩
    · intro i H3635 _ hw
      obtain ⟨G3638, acc3640, vs3641, L3643, eG3639, S3636, h3637, d3642, nb3644, nd3645, eo3646, hw⟩ := hw
      exact ⟨(SqL.of (S3636.bM _ _ h3612)), (SqL.of (S3636.bM _ _ h3616))⟩
    · intro i x y T3649 H3647 hj hj2 n3648 hw
      obtain ⟨G3652, acc3654, vs3655, L3657, eG3653, S3650, h3651, d3656, nb3658, nd3659, eo3660, hw⟩ := hw
      obtain ⟨x3661, hx3662, r3663⟩ := RpAll.get d3613 hj
      obtain ⟨a3664, rfl, h3665⟩ := rp_ints r3663
      obtain ⟨x3666, hx3667, r3668⟩ := RpAll.get d3617 hj2
      obtain ⟨a3669, rfl, h3670⟩ := rp_ints r3668
      generalize g3671 : upd H3647 T3649 _ = H3672
      obtain ⟨e3673, h3674⟩ := gen_new n3648 g3671
      have h3675 : H3672 T3649 = some (.tup [V.ref a3664, V.ref a3669]) := h3674
      have fr3676 := S3650.free n3648
      obtain ⟨G3678, eG3679, hg3680, S3677⟩ := S3650.grow n3648 e3673 h3675 fr3676
      obtain ⟨z3681, hw⟩ := cW_mapA (zip_get hx3662 hx3667) hw
      have hw := cW_noEr hw
      have hw : cW (F__mixed_c1 (weight') ((16 - weight')) ((x3661, x3666))) _ (fun _ => False) := hw
      unfold F__mixed_c1 at hw
      refine ⟨_, _, rfl, (SqT.of (S3677.sG _ _ hg3680)), rfl, _, _, rfl, _, _, rfl, rfl, rfl, ?_⟩
      refine tyes_go ?_
      obtain ⟨K3686, hK3687, hw⟩ := cW_push hw
      refine ⟨_, rfl, _, rfl, _, _, _, _, rfl, .inl ⟨(SqL.of (S3677.bM _ _ h3665)), (SqL.of (S3677.bM _ _ h3670)), fun D3688 n3689 => lc_zipM (K := K) (a := a3664) (b := a3669) (xs := (x3661 : List Int).map V.int) (ys := (x3666 : List Int).map V.int) (min ((x3661 : (List Int)).length) ((x3666 : (List Int)).length)) (zipM_n (by rw [List.length_map]) (by rw [List.length_map])) (fun i2 H' => ∃ (G' : Hp) (acc3691 : (List Int)), Same G3678 G' ∧ Sep [] H G G' H' (D3688 :: (D3624 :: (L3657 ++ []))) ∧ H' D3624 = some (.lst (vs3655)) ∧ H' D3688 = some (.lst ((acc3691 : (List Int)).map V.int)) ∧ OwAll G' H' L3657 (vs3655) ((acc3654 : (List (List Int))).map (oL oI)) ∧ Same H3672 H' ∧ cW (mapA (List.drop i2 (List.zip (x3661) (x3666))) acc3691 (fun x => noEr (F__mixed_c2 (weight') ((16 - weight')) x))) K3686 (fun _ => False)) ?_ ?_ ?_ ?_⟩⟩
      · generalize g3693 : upd H3672 D3688 _ = H3694
        obtain ⟨e3695, h3696⟩ := gen_new n3689 g3693
        have fr3697 := S3677.free n3689
        have S3698 := S3677.new n3689 e3695 h3696 fr3697
        have h3699 := (e3695 _ _ (e3673 _ _ h3651))
        have w3700 : OwAll G3678 H3694 L3657 (vs3655) ((acc3654 : (List (List Int))).map (oL oI)) := (OwAll.mono eG3679 keeps_refl (OwAll.mono (Same.refl _) (keeps_same e3695) (OwAll.mono (Same.refl _) (keeps_same e3673) d3656)))
        exact ⟨_, [], Same.refl _, S3698, h3699, h3696, w3700, e3695, hw⟩
      · intro i2 H3701 _ hw
        obtain ⟨G3704, acc3706, eG3705, S3702, h3713, h3703, w3714, eo3712, hw⟩ := hw
        exact ⟨(SqL.of (S3702.bM _ _ h3665)), (SqL.of (S3702.bM _ _ h3670))⟩
      · intro i2 x y T3717 H3715 hj hj2 n3716 hw
        obtain ⟨G3720, acc3722, eG3721, S3718, h3729, h3719, w3730, eo3728, hw⟩ := hw
        obtain ⟨x3731, hx3732, rfl⟩ := map_get hj
        obtain ⟨x3733, hx3734, rfl⟩ := map_get hj2
        generalize g3735 : upd H3715 T3717 _ = H3736
        obtain ⟨e3737, h3738⟩ := gen_new n3716 g3735
        have h3739 : H3736 T3717 = some (.tup [V.int (x3731), V.int (x3733)]) := h3738
        have fr3740 := S3718.free n3716
        obtain ⟨G3742, eG3743, hg3744, S3741⟩ := S3718.grow n3716 e3737 h3739 fr3740
        obtain ⟨z3745, hw⟩ := cW_mapA (zip_get hx3732 hx3734) hw
        have hw := cW_noEr hw
        have hw : cW (F__mixed_c2 (weight') ((16 - weight')) ((x3731, x3733))) _ (fun _ => False) := hw
        unfold F__mixed_c2 at hw
        refine ⟨_, _, rfl, (SqT.of (S3741.sG _ _ hg3744)), rfl, _, _, rfl, _, _, rfl, rfl, rfl, ?_⟩
        refine tyes_go ?_
        obtain ⟨g3747, hw⟩ := cW_grd hw
        obtain ⟨g3748, hw⟩ := cW_grd hw
        have h3749 := (e3737 _ _ h3719)
        refine ⟨_, rfl, _, rfl, _, _, rfl, rfl, g3747, _, rfl, _, rfl, _, _, rfl, rfl, g3748, _, _, rfl, rfl, _, _, rfl, rfl, _, _, rfl, rfl, (show (0 : Int) ≤ 4 by decide), _, h3749, (app_lenM z3745), ?_⟩
        generalize g3750 : upd H3736 D3688 _ = H3751
        obtain ⟨x3752, h3753⟩ := gen_mut g3750
        have S3754 := S3741.mut1 x3752 (.head _) h3753
        have hw := cW_ok hw
        have h3755 := (x3752 _ _ (e3737 _ _ h3729) (ne_of_none (e3673 _ _ h3651) n3689))
        have w3756 : OwAll G3742 H3751 L3657 (vs3655) ((acc3654 : (List (List Int))).map (oL oI)) := (OwAll.mono eG3743 keeps_refl (OwAll.mono (Same.refl _) (keeps_mut x3752 ((there_ne (fun b_ hb_ => (S3677.ow b_ (((fun b hb => (.tail _ (List.mem_append_left _ hb))) : ∀ b ∈ L3657, b ∈ (D3624 :: (L3657 ++ []))) b_ hb_)).2.1) n3689) : ∀ b ∈ L3657, b ≠ D3688)) (OwAll.mono (Same.refl _) (keeps_same e3737) w3730)))
        exact ⟨_, (acc3722 ++ [((((x3733 * weight') + (x3731 * (16 - weight'))) + 8) / 16)]), (Same.trans eG3721 eG3743), S3754, h3755, (snoc_map h3753), w3756, (same_mut (Same.trans eo3728 e3737) x3752 n3689), hw⟩
      intro H3757 hw
      obtain ⟨G3760, acc3762, eG3761, S3758, h3769, h3759, w3770, eo3768, hw⟩ := hw
      have hw := hK3687 _ (cW_mapA0 zipM_len hw)
      have fr3771 := S3677.free n3689
      refine ⟨_, h3769, (app_len (OwAll.rpA w3770 (encO_L encO_I) S3758.sG) z3681), ?_⟩
      generalize g3772 : upd H3757 D3624 _ = H3773
      obtain ⟨x3774, h3775⟩ := gen_mut g3772
      have S3776 := S3758.mut1 x3774 (.tail _ (.head _)) h3775
      have hw := cW_ok hw
      exact ⟨_, (acc3654 ++ [acc3762]), _, (L3657 ++ (D3688 :: ([] : List Addr))), (Same.trans (Same.trans eG3653 eG3679) eG3761), (S3776.sub (all_cons (.tail _ (.head _)) (all_app (all_app ((fun b hb => (.tail _ (.tail _ (List.mem_append_left _ hb)))) : ∀ b ∈ L3657, b ∈ (D3688 :: (D3624 :: (L3657 ++ [])))) (all_cons (.head _) all_nil)) all_nil))), h3775, (OwAll.mono (Same.refl _) (keeps_mut x3774 ((all_app nd3659 (all_cons (ne_of_none (e3673 _ _ h3651) n3689).symm all_nil)) : ∀ b ∈ (L3657 ++ (D3688 :: ([] : List Addr))), b ≠ D3624)) (OwAll.snocM w3770 (Ow.ints h3759) ((fun b hb => (nm_cons ((there_ne (fun b_ hb_ => (S3677.ow b_ (((fun b hb => (.tail _ (List.mem_append_left _ hb))) : ∀ b ∈ L3657, b ∈ (D3624 :: (L3657 ++ []))) b_ hb_)).2.1) n3689) b hb) nm_nil)) : ∀ b ∈ L3657, b ∉ (D3688 :: ([] : List Addr))))), ((all_app nb3658 (all_cons (none_of_same (Same.trans eo3660 e3673) n3689) all_nil)) : ∀ b ∈ (L3657 ++ (D3688 :: ([] : List Addr))), H b = none), ((all_app nd3659 (all_cons (ne_of_none (e3673 _ _ h3651) n3689).symm all_nil)) : ∀ b ∈ (L3657 ++ (D3688 :: ([] : List Addr))), b ≠ D3624), (same_mut (Same.trans (Same.trans eo3660 e3673) eo3768) x3774 n3625), hw⟩
    intro H3777 hw
    obtain ⟨G3780, acc3782, vs3783, L3785, eG3781, S3778, h3779, d3784, nb3786, nd3787, eo3788, hw⟩ := hw
    have hw := hK3623 _ (cW_mapA0 zipM_len hw)
    have fr3789 := S0.free n3625
    have hw := cW_ok hw
    exact hK0 _ hw _ _ _ _ _ fr3789 ((fun b hb => Sep.h0 S3778 (((fun b hb => (.tail _ (List.mem_append_left _ hb))) : ∀ b ∈ L3785, b ∈ (D3624 :: (L3785 ++ []))) b hb) nm_nil) : ∀ b ∈ L3785, H b = none) (nd3787 : ∀ b ∈ L3785, b ≠ D3624) S3778.b0 S3778.g0 S3778.sG S3778.gn (S3778.ow _ (.head _)).1 ((fun b hb => (S3778.ow b (((fun b hb => (.tail _ (List.mem_append_left _ hb))) : ∀ b ∈ L3785, b ∈ (D3624 :: (L3785 ++ []))) b hb)).1) : ∀ b ∈ L3785, G3780 b = none) h3779 d3784

abbrev N_predict_motion : List Str := ["fmt", "header", "motion", "references", "plane", "x", "y", "width", "height", "direction", "index", "first", "second", "one", "other"]
theorem sc_predict_motion : FnScope N_predict_motion ["fmt", "header", "motion", "references", "plane", "x", "y", "width", "height"] (defScope s_predict_motion) := ⟨rfl, rfl, rfl, by decide +kernel, rfl, by decide +kernel, by decide +kernel⟩
theorem ok_predict_motion (D : DefX K mg "predict_motion" s_predict_motion ["fmt", "header", "motion", "references", "plane", "x", "y", "width", "height"] pats_predict_motion) (T : Txt w K mg AD) (c__predict_vector : CalX P w K mg base 4 "_predict_vector" (sp__predict_vector K AD) pats__predict_vector) (c__mixed : CalX P w K mg base 1 "_mixed" (sp__mixed K AD) pats__mixed) : CalX P w K mg base 5 "predict_motion" (sp_predict_motion K AD) pats_predict_motion := by
  refine D.ok sc_predict_motion (fun vs H Q E h => ?_) (fun f cdv A_ outer s H vs Q E hr h => ?_)
  · obtain ⟨G, p_fmt, dx_fmt, fmt', p_header, l_header_store, l_header_refs, dx_header, header', v_motion, motion', v_references, references', plane', x', y', width', height', rfl, _⟩ := h
    rfl
  · obtain ⟨G, p_fmt, dx_fmt, fmt', p_header, l_header_store, l_header_refs, dx_header, header', v_motion, motion', v_references, references', plane', x', y', width', height', rfl, sG, h_p_fmt, h_p_header, h_l_header_store, h_l_header_refs, r_motion, r_references, hw⟩ := h
    refine ⟨_, (pss_cons (ps_asg (pv 2) (pg_tupK (K := K) (n := 4) (pgs_cons (pg_name (i := 9) sc_predict_motion.nd rfl (Or.inl rfl)) (pgs_cons (pg_name (i := 10) sc_predict_motion.nd rfl (Or.inl rfl)) (pgs_cons (pg_name (i := 11) sc_predict_motion.nd rfl (Or.inl rfl)) (pgs_cons (pg_name (i := 12) sc_predict_motion.nd rfl (Or.inl rfl)) pgs_nil))))))
      (pss_cons (ps_if (pt_cmp (pc_eqI (pv 9) pe_int)) (pss_one (ps_ret (vx_callX c__predict_vector pat__predict_vector_0 (.head _) hr (by decide) (takes_of rfl rfl rfl rfl) rfl (pa_cons (pv 0) (pa_cons (pv 12) (pa_cons (pe_ix (ix_listK (K := K)) (pv 3) pe_int (fun _ _ => rfl)) (pa_cons (pv 4) (pa_cons (pv 5) (pa_cons (pv 6) (pa_cons (pv 7) (pa_cons (pv 8) pa_nil)))))))) pk_nil))) pss_nil)
      (pss_cons (ps_set (i := 13) sc_predict_motion.nd rfl (Or.inl rfl) (vx_callX c__predict_vector pat__predict_vector_0 (.head _) hr (by decide) (takes_of rfl rfl rfl rfl) rfl (pa_cons (pv 0) (pa_cons (pv 11) (pa_cons (pe_ix (ix_listK (K := K)) (pv 3) (pv 10) (fun _ _ => rfl)) (pa_cons (pv 4) (pa_cons (pv 5) (pa_cons (pv 6) (pa_cons (pv 7) (pa_cons (pv 8) pa_nil)))))))) pk_nil))
      (pss_cons (ps_if (pt_cmp (pc_eqI (pv 9) pe_int)) (pss_one (ps_ret (pv 13))) pss_nil)
      (pss_cons (ps_set (i := 14) sc_predict_motion.nd rfl (Or.inl rfl) (vx_callX c__predict_vector pat__predict_vector_0 (.head _) hr (by decide) (takes_of rfl rfl rfl rfl) rfl (pa_cons (pv 0) (pa_cons (pv 12) (pa_cons (pe_ix (ix_listK (K := K)) (pv 3) pe_int (fun _ _ => rfl)) (pa_cons (pv 4) (pa_cons (pv 5) (pa_cons (pv 6) (pa_cons (pv 7) (pa_cons (pv 8) pa_nil)))))))) pk_nil))
      (pss_one (ps_ret (vx_callX c__mixed pat__mixed_0 (.head _) hr (by decide) (takes_of rfl rfl rfl rfl) rfl (pa_cons (pv 13) (pa_cons (pv 14) (pa_cons (fldK (K := K) (pv 1)) pa_nil))) pk_nil)))))))), ?_⟩
    obtain ⟨KK, EE, hK0, hE, hw⟩ := cW_gen hw
    have S0 := Sep.startG sG
    unfold F_predict_motion at hw
    obtain ⟨a3790, v3792, v3793, v3794, v3795, rfl, h3791, r3796, r3797, r3798, r3799⟩ := rp_tup4 r_motion
    obtain rfl := rp_int r3796
    obtain rfl := rp_int r3797
    obtain ⟨a3800, vs3801, rfl, h3802, d3803⟩ := rp_list r_references
    refine ⟨_, rfl, _, _, rfl, (SqT.of (S0.bM _ _ h3791)), rfl, _, _, rfl, _, _, rfl, _, _, rfl, _, _, rfl, rfl, _, rfl, _, _, rfl, rfl, _, rfl, ?_⟩
    refine iteD (fun c3804 => ?_) (fun c3804 => ?_)
    · have hw := cW_pos c3804 hw
      obtain ⟨g3805, hw⟩ := cW_grd hw
      have r3806 : Rp (hideL [] H) v3795 ((encT2 PyData.int PyData.int) (((cT2 cI cI)).dec (motion'.2.2.2))) := rp_dcast (cT2 cI cI) g3805 r3799
      obtain ⟨a3807, v3809, v3810, rfl, h3808, r3811, r3812⟩ := rp_tup2 r3806
      obtain rfl := rp_int r3811
      obtain rfl := rp_int r3812
      obtain ⟨g3813, hw⟩ := cW_grd hw
      obtain ⟨v3814, a3815, r3816⟩ := RpAll.ixD (k := 1) d3803 g3813
      obtain ⟨a3817, vs3818, rfl, h3819, d3820⟩ := rp_list r3816
      refine ⟨_, rfl, _, rfl, _, rfl, _, _, _, _, rfl, rfl, (SqL.of (S0.bM _ _ h3802)), a3815, _, rfl, _, rfl, _, rfl, _, rfl, _, rfl, rfl, rfl, G, _, _, fmt', _, _, _, _, _, _, _, _, _, rfl, S0.sG, (hide_nil (S0.bM _ _ h_p_fmt)), (Rp.hide_nil (rp_mk2 (S0.bM _ _ h3808) (.int _) (.int _))), (Rp.hide_nil (rp_mk_list (S0.bM _ _ h3819) (RpAll.mono S0.bM d3820))), cW_call hw (fun v3821 hw H3822 a3824 vs3825 L3826 G3827 n3828 nb3829 nd3830 e3823 eG3831 sG3832 hn3833 ga3834 gL3835 h3836 w3837 => ?_) (fun e he H2 e2 => hE e he H2 (Same.trans S0.b0 e2))⟩
      have fr3838 := S0.free n3828
      have S3839 : Sep _ _ _ _ H3822 (a3824 :: (L3826 ++ [])) := Sep.steptree S0 e3823 eG3831 sG3832 hn3833 (a3824 :: L3826) (all_cons ⟨n3828, ga3834, some_ne h3836⟩ (fun b hb => ⟨nb3829 b hb, gL3835 b hb, OwAll.there w3837 b hb⟩))
      have hw := cW_ok hw
      exact hK0 _ hw _ _ _ _ _ fr3838 ((fun b hb => Sep.h0 S3839 (((fun b hb => (.tail _ (List.mem_append_left _ hb))) : ∀ b ∈ L3826, b ∈ (a3824 :: (L3826 ++ []))) b hb) nm_nil) : ∀ b ∈ L3826, H b = none) (nd3830 : ∀ b ∈ L3826, b ≠ a3824) S3839.b0 S3839.g0 S3839.sG S3839.gn (S3839.ow _ (.head _)).1 ((fun b hb => (S3839.ow b (((fun b hb => (.tail _ (List.mem_append_left _ hb))) : ∀ b ∈ L3826, b ∈ (a3824 :: (L3826 ++ []))) b hb)).1) : ∀ b ∈ L3826, G3827 b = none) h3836 w3837
    · have hw := cW_neg c3804 hw
      obtain ⟨g3840, hw⟩ := cW_grd hw
      have r3841 : Rp (hideL [] H) v3794 ((encT2 PyData.int PyData.int) (((cT2 cI cI)).dec (motion'.2.2.1))) := rp_dcast (cT2 cI cI) g3840 r3798
      obtain ⟨a3842, v3844, v3845, rfl, h3843, r3846, r3847⟩ := rp_tup2 r3841
      obtain rfl := rp_int r3846
      obtain rfl := rp_int r3847
      obtain ⟨g3848, hw⟩ := cW_grd hw
      obtain ⟨v3849, a3850, r3851⟩ := RpAll.ixD (k := motion'.2.1) d3803 g3848
      obtain ⟨a3852, vs3853, rfl, h3854, d3855⟩ := rp_list r3851
      refine ⟨_, rfl, _, rfl, _, rfl, _, rfl, _, _, _, _, rfl, rfl, (SqL.of (S0.bM _ _ h3802)), a3850, _, rfl, _, rfl, _, rfl, _, rfl, _, rfl, rfl, rfl, G, _, _, fmt', _, _, _, _, _, _, _, _, _, rfl, S0.sG, (hide_nil (S0.bM _ _ h_p_fmt)), (Rp.hide_nil (rp_mk2 (S0.bM _ _ h3843) (.int _) (.int _))), (Rp.hide_nil (rp_mk_list (S0.bM _ _ h3854) (RpAll.mono S0.bM d3855))), cW_call hw (fun v3856 hw H3857 a3859 vs3860 L3861 G3862 n3863 nb3864 nd3865 e3858 eG3866 sG3867 hn3868 ga3869 gL3870 h3871 w3872 => ?_) (fun e he H2 e2 => hE e he H2 (Same.trans S0.b0 e2))⟩
      have fr3873 := S0.free n3863
      have S3874 : Sep _ _ _ _ H3857 (a3859 :: (L3861 ++ [])) := Sep.steptree S0 e3858 eG3866 sG3867 hn3868 (a3859 :: L3861) (all_cons ⟨n3863, ga3869, some_ne h3871⟩ (fun b hb => ⟨nb3864 b hb, gL3870 b hb, OwAll.there w3872 b hb⟩))
      refine ⟨_, rfl, _, _, rfl, rfl, _, rfl, ?_⟩
      refine iteD (fun c3875 => ?_) (fun c3875 => ?_)
      · have hw := cW_pos c3875 hw
        refine ⟨_, rfl, ?_⟩
        have hw := cW_ok hw
        exact hK0 _ hw _ _ _ _ _ fr3873 ((fun b hb => Sep.h0 S3874 (((fun b hb => (.tail _ (List.mem_append_left _ hb))) : ∀ b ∈ L3861, b ∈ (a3859 :: (L3861 ++ []))) b hb) nm_nil) : ∀ b ∈ L3861, H b = none) (nd3865 : ∀ b ∈ L3861, b ≠ a3859) S3874.b0 S3874.g0 S3874.sG S3874.gn (S3874.ow _ (.head _)).1 ((fun b hb => (S3874.ow b (((fun b hb => (.tail _ (List.mem_append_left _ hb))) : ∀ b ∈ L3861, b ∈ (a3859 :: (L3861 ++ []))) b hb)).1) : ∀ b ∈ L3861, G3862 b = none) h3871 w3872
      · have hw := cW_neg c3875 hw
        obtain ⟨g3876, hw⟩ := cW_grd hw
        have r3877 : Rp (hideL [] H) v3795 ((encT2 PyData.int PyData.int) (((cT2 cI cI)).dec (motion'.2.2.2))) := rp_dcast (cT2 cI cI) g3876 r3799
        obtain ⟨a3878, v3880, v3881, rfl, h3879, r3882, r3883⟩ := rp_tup2 r3877
        obtain rfl := rp_int r3882
        obtain rfl := rp_int r3883
        obtain ⟨g3884, hw⟩ := cW_grd hw
        obtain ⟨v3885, a3886, r3887⟩ := RpAll.ixD (k := 1) d3803 g3884
        obtain ⟨a3888, vs3889, rfl, h3890, d3891⟩ := rp_list r3887
        refine ⟨_, rfl, _, rfl, _, rfl, _, _, _, _, rfl, rfl, (SqL.of (S3874.bM _ _ h3802)), a3886, _, rfl, _, rfl, _, rfl, _, rfl, _, rfl, rfl, rfl, G3862, _, _, fmt', _, _, _, _, _, _, _, _, _, rfl, S3874.sG, (hide_nil (S3874.bM _ _ h_p_fmt)), (Rp.hide_nil (rp_mk2 (S3874.bM _ _ h3879) (.int _) (.int _))), (Rp.hide_nil (rp_mk_list (S3874.bM _ _ h3890) (RpAll.mono S3874.bM d3891))), cW_call hw (fun v3892 hw H3893 a3895 vs3896 L3897 G3898 n3899 nb3900 nd3901 e3894 eG3902 sG3903 hn3904 ga3905 gL3906 h3907 w3908 => ?_) (fun e he H2 e2 => hE e he H2 (Same.trans S3874.b0 e2))⟩
        have fr3909 := S3874.free n3899
        have S3910 : Sep _ _ _ _ H3893 (a3895 :: (L3897 ++ (a3859 :: (L3861 ++ [])))) := Sep.steptree S3874 e3894 eG3902 sG3903 hn3904 (a3895 :: L3897) (all_cons ⟨n3899, ga3905, some_ne h3907⟩ (fun b hb => ⟨nb3900 b hb, gL3906 b hb, OwAll.there w3908 b hb⟩))
        have h3911 := (e3894 _ _ h3871)
        have w3912 : OwAll G3898 H3893 L3861 (vs3860) ((v3856 : (List (List Int))).map (oL oI)) := (OwAll.mono eG3902 keeps_refl (OwAll.mono (Same.refl _) (keeps_same e3894) w3872))
        refine ⟨_, rfl, _, rfl, _, rfl, _, _, _, _, _, rfl, (S3910.bM _ _ h_p_header), T.cl_PictureHeader, T.n_PictureHeader_weight, rfl, rfl, rfl, G3898, _, _, _, _, _, rfl, S3910.sG, (Rp.hide_nil (rp_mk_list h3911 (OwAll.rpA w3912 (encO_L encO_I) S3910.sG))), (Rp.hide_nil (rp_mk_list h3907 (OwAll.rpA w3908 (encO_L encO_I) S3910.sG))), cW_call hw (fun v3913 hw H3914 a3916 vs3917 L3918 G3919 n3920 nb3921 nd3922 e3915 eG3923 sG3924 hn3925 ga3926 gL3927 h3928 w3929 => ?_) (fun e he H2 e2 => hE e he H2 (Same.trans S3910.b0 e2))⟩
        have fr3930 := S3910.free n3920
        have S3931 : Sep _ _ _ _ H3914 (a3916 :: (L3918 ++ (a3895 :: (L3897 ++ (a3859 :: (L3861 ++ [])))))) := Sep.steptree S3910 e3915 eG3923 sG3924 hn3925 (a3916 :: L3918) (all_cons ⟨n3920, ga3926, some_ne h3928⟩ (fun b hb => ⟨nb3921 b hb, gL3927 b hb, OwAll.there w3929 b hb⟩))
        have hw := cW_ok hw
        exact hK0 _ hw _ _ _ _ _ fr3930 ((fun b hb => Sep.h0 S3931 (((fun b hb => (.tail _ (List.mem_append_left _ hb))) : ∀ b ∈ L3918, b ∈ (a3916 :: (L3918 ++ (a3895 :: (L3897 ++ (a3859 :: (L3861 ++ []))))))) b hb) nm_nil) : ∀ b ∈ L3918, H b = none) (nd3922 : ∀ b ∈ L3918, b ≠ a3916) S3931.b0 S3931.g0 S3931.sG S3931.gn (S3931.ow _ (.head _)).1 ((fun b hb => (S3931.ow b (((fun b hb => (.tail _ (List.mem_append_left _ hb))) : ∀ b ∈ L3918, b ∈ (a3916 :: (L3918 ++ (a3895 :: (L3897 ++ (a3859 :: (L3861 ++ []))))))) b hb)).1) : ∀ b ∈ L3918, G3919 b = none) h3928 w3929

abbrev N_law : List Str := ["script", "found", "n", "header", "fmt", "references", "kept", "cell", "draws", "plane", "size", "x", "y", "place", "motion", "due", "actual", "spoilt", "k", "planes", "row"]
theorem sc_law : FnScope N_law ["script"] (defScope s_law) := ⟨rfl, rfl, rfl, by decide +kernel, rfl, by decide +kernel, by decide +kernel⟩
theorem ok_law {f : Addr} {fd : FuncData} (F : FunD K "law" "law" (defArgs s_law) (defBody s_law) (defScope s_law) [] [] f fd) (T : Txt w K mg AD) (c__law_inter : CalX P w K mg base 2 "_law_inter" (sp__law_inter K AD) pats__law_inter) (c__law_cell : CalX P w K mg base 1 "_law_cell" (sp__law_cell K AD) pats__law_cell) (c__law_header : CalX P w K mg base 5 "_law_header" (sp__law_header K AD) pats__law_header) (c_Format___init__ : MakX P w K mg base 1 "Format" AD.c_Format (sp_Format___init__ K AD) pats_Format___init__) (c__law_reference : CalX P w K mg base 3 "_law_reference" (sp__law_reference K AD) pats__law_reference) (c__law_copy : CalX P w K mg base 1 "_law_copy" (sp__law_copy K AD) pats__law_copy) (c__law_draws : CalX P w K mg base 1 "_law_draws" (sp__law_draws K AD) pats__law_draws) (c__law_coded : CalX P w K mg base 1 "_law_coded" (sp__law_coded K AD) pats__law_coded) (c__law_motion : CalX P w K mg base 2 "_law_motion" (sp__law_motion K AD) pats__law_motion) (c__law_predict : CalX P w K mg base 4 "_law_predict" (sp__law_predict K AD) pats__law_predict) (c_predict_motion : CalX P w K mg base 5 "predict_motion" (sp_predict_motion K AD) pats_predict_motion) : FnG P w K mg base CX0 6 f fd ["script"] (sp_law K AD) := by
  refine FnG.bodyN F sc_law (fun vs H Q E h => ?_) (fun cdv A_ outer s H vs Q E hr h => ?_)
  · obtain ⟨a_script, script, rfl, _⟩ := h
    rfl
  · obtain ⟨a_script, script', rfl, q_script, hw, k⟩ := h
    refine ⟨_, (pss_cons (ps_set (i := 1) sc_law.nd rfl (Or.inl rfl) (vx_callX c__law_inter pat__law_inter_0 (.head _) hr (by decide) takes0 rfl (pa_cons (vx_callX c__law_cell pat__law_cell_0 (.head _) hr (by decide) takes0 rfl (pa_cons (pv 0) (pa_cons pe_int pa_nil)) pk_nil) pa_nil) pk_nil))
      (pss_cons (ps_set (i := 2) sc_law.nd rfl (Or.inr rfl) (pe_ix (ix_tupK (K := K)) (pv 1) pe_int (fun _ _ => rfl)))
      (pss_cons (ps_set (i := 3) sc_law.nd rfl (Or.inl rfl) (vx_callX c__law_header pat__law_header_0 (.head _) hr (by decide) takes0 rfl (pa_cons (pv 2) (pa_cons (pe_ix (ix_tupK (K := K)) (pv 1) pe_int (fun _ _ => rfl)) (pa_cons (pe_ix (ix_tupK (K := K)) (pv 1) pe_int (fun _ _ => rfl)) (pa_cons (pe_ix (ix_tupK (K := K)) (pv 1) pe_int (fun _ _ => rfl)) pa_nil)))) pk_nil))
      (pss_cons (ps_set (i := 4) sc_law.nd rfl (Or.inl rfl) (vx_makeX c_Format___init__ pat_Format___init___0 (.head _) hr (by decide) takes0 rfl (pa_cons (pe_ix (ix_listK (K := K)) (pv 2) pe_int (fun _ _ => rfl)) (pa_cons (pe_ix (ix_listK (K := K)) (pv 2) pe_int (fun _ _ => rfl)) pa_nil)) (pk_cons (pe_ix (ix_listK (K := K)) (pv 2) pe_int (fun _ _ => rfl)) (pk_cons (pe_ix (ix_listK (K := K)) (pv 2) pe_int (fun _ _ => rfl)) pk_nil))))
      (pss_cons (ps_setLc (i := 5) (y := "references") rfl sc_law.nd rfl rfl (sw_true rfl rfl rfl (by decide +kernel)) (own := [("k", 18)]) (g := gName 18) (pi_range1 rfl T.b_range (pa_cons (pe_ix (ix_tupK (K := K)) (pv 1) pe_int (fun _ _ => rfl)) pa_nil)) (blkOk_by (own := [("k", 18)]) (N := N_law) (sc := defScope s_law) (by decide +kernel)) (fun _ _ _ _ _ => (pg_name (i := 18) sc_law.nd rfl (Or.inl rfl))) (fun _ _ _ _ _ => pts_nil) (fun _ _ _ _ _ => (vx_callX c__law_reference pat__law_reference_0 (.head _) hr (by decide) takes0 rfl (pa_cons (vx_callX c__law_cell pat__law_cell_0 (.head _) hr (by decide) takes0 rfl (pa_cons (pv 0) (pa_cons (pe_op op_add pe_int (pv 18)) pa_nil)) pk_nil) (pa_cons (pv 2) pa_nil)) pk_nil)))
      (pss_cons (ps_setLc (i := 6) (y := "kept") rfl sc_law.nd rfl rfl (sw_true rfl rfl rfl (by decide +kernel)) (own := [("planes", 19)]) (g := gName 19) (pi_listK (K := K) (pv 5)) (blkOk_by (own := [("planes", 19)]) (N := N_law) (sc := defScope s_law) (by decide +kernel)) (fun _ _ _ _ _ => (pg_name (i := 19) sc_law.nd rfl (Or.inl rfl))) (fun _ _ _ _ _ => pts_nil) (fun _ _ _ _ _ => (vx_callX c__law_copy pat__law_copy_0 (.head _) hr (by decide) takes0 rfl (pa_cons (pv 19) pa_nil) pk_nil)))
      (pss_cons (ps_for PassesOwn.never rfl (pi_listK (K := K) (pe_slice (sl_listK (K := K)) (pe_op op_cat (pe_lst (pa_cons pe_int pa_nil)) (pe_slice (sl_listK (K := K)) (pv 0) (po_some pe_int) po_none)) po_none (po_some pe_int))) (pg_name (i := 7) sc_law.nd rfl (Or.inl rfl)) (pss_cons (ps_set (i := 8) sc_law.nd rfl (Or.inl rfl) (vx_callX c__law_draws pat__law_draws_0 (.head _) hr (by decide) takes0 rfl (pa_cons (pe_op op_fdivW (pe_callTy call_int1 (by rfl) T.b_int (by decide +kernel) (pa_cons (pv 7) pa_nil)) pe_int) (pa_cons (pe_lst (pa_cons pe_int (pa_cons pe_int (pa_cons pe_int (pa_cons pe_int (pa_cons pe_int pa_nil)))))) pa_nil)) pk_nil))
      (pss_cons (ps_set (i := 9) sc_law.nd rfl (Or.inl rfl) (pe_op op_mod (pe_callTy call_int1 (by rfl) T.b_int (by decide +kernel) (pa_cons (pe_ix (ix_listK (K := K)) (pv 8) pe_int (fun _ _ => rfl)) pa_nil)) (pe_op op_add pe_int (pe_op op_mul pe_int (pe_callTy call_int1 (by rfl) T.b_int (by decide +kernel) (pa_cons (pe_cmp (pc_gt (pe_ix (ix_listK (K := K)) (pv 2) pe_int (fun _ _ => rfl)) pe_int)) pa_nil))))))
      (pss_cons (ps_set (i := 10) sc_law.nd rfl (Or.inl rfl) (vx_callX c__law_coded pat__law_coded_0 (.head _) hr (by decide) takes0 rfl (pa_cons (pv 2) (pa_cons (pv 9) pa_nil)) pk_nil))
      (pss_cons (ps_set (i := 11) sc_law.nd rfl (Or.inl rfl) (pe_op op_mod (pe_callTy call_int1 (by rfl) T.b_int (by decide +kernel) (pa_cons (pe_ix (ix_listK (K := K)) (pv 8) pe_int (fun _ _ => rfl)) pa_nil)) (pe_ix (ix_tupK (K := K)) (pv 10) pe_int (fun _ _ => rfl))))
      (pss_cons (ps_set (i := 12) sc_law.nd rfl (Or.inl rfl) (pe_op op_mod (pe_callTy call_int1 (by rfl) T.b_int (by decide +kernel) (pa_cons (pe_ix (ix_listK (K := K)) (pv 8) pe_int (fun _ _ => rfl)) pa_nil)) (pe_ix (ix_tupK (K := K)) (pv 10) pe_int (fun _ _ => rfl))))
      (pss_cons (ps_set (i := 13) sc_law.nd rfl (Or.inl rfl) (pe_tup (pa_cons (pv 11) (pa_cons (pv 12) (pa_cons (pe_callB (call_min2 rfl) (by rfl) T.b_min (by decide +kernel) (pa_cons (pe_op op_add pe_int (pe_ix (ix_listK (K := K)) (pv 8) pe_int (fun _ _ => rfl))) (pa_cons (pe_op op_sub (pe_ix (ix_tupK (K := K)) (pv 10) pe_int (fun _ _ => rfl)) (pv 11)) pa_nil))) (pa_cons (pe_callB (call_min2 rfl) (by rfl) T.b_min (by decide +kernel) (pa_cons (pe_op op_add pe_int (pe_ix (ix_listK (K := K)) (pv 8) pe_int (fun _ _ => rfl))) (pa_cons (pe_op op_sub (pe_ix (ix_tupK (K := K)) (pv 10) pe_int (fun _ _ => rfl)) (pv 12)) pa_nil))) pa_nil))))))
      (pss_cons (ps_set (i := 14) sc_law.nd rfl (Or.inl rfl) (vx_callX c__law_motion pat__law_motion_0 (.head _) hr (by decide) takes0 rfl (pa_cons (pv 7) (pa_cons (pe_ix (ix_tupK (K := K)) (pv 1) pe_int (fun _ _ => rfl)) (pa_cons (pe_ix (ix_tupK (K := K)) (pv 1) pe_int (fun _ _ => rfl)) pa_nil))) pk_nil))
      (pss_cons (ps_set (i := 15) sc_law.nd rfl (Or.inl rfl) (vx_callX c__law_predict pat__law_predict_0 (.head _) hr (by decide) takes0 rfl (pa_cons (pv 2) (pa_cons (pe_ix (ix_tupK (K := K)) (pv 1) pe_int (fun _ _ => rfl)) (pa_cons (pe_ix (ix_tupK (K := K)) (pv 1) pe_int (fun _ _ => rfl)) (pa_cons (pv 14) (pa_cons (pv 6) (pa_cons (pv 9) (pa_cons (pv 13) pa_nil))))))) pk_nil))
      (pss_cons (ps_set (i := 16) sc_law.nd rfl (Or.inl rfl) (vx_callX c_predict_motion pat_predict_motion_0 (.head _) hr (by decide) takes0 rfl (pa_cons (pv 4) (pa_cons (pv 3) (pa_cons (pv 14) (pa_cons (pv 5) (pa_cons (pv 9) (pa_cons (pe_ix (ix_tupK (K := K)) (pv 13) pe_int (fun _ _ => rfl)) (pa_cons (pe_ix (ix_tupK (K := K)) (pv 13) pe_int (fun _ _ => rfl)) (pa_cons (pe_ix (ix_tupK (K := K)) (pv 13) pe_int (fun _ _ => rfl)) (pa_cons (pe_ix (ix_tupK (K := K)) (pv 13) pe_int (fun _ _ => rfl)) pa_nil))))))))) pk_nil))
      (pss_cons (ps_if (PW.pt (pw_or (pt_not (pt_val (pe_callB call_isi (by rfl) T.b_isinstance (by decide +kernel) (pa_cons (pv 16) (pa_cons (pe_bltn (v := V.ty "list") (u := Value.type "list") (by rfl) T.b_list (by decide +kernel) rfl) pa_nil))))) (pw_or (pt_cmpR (op_neT (encOk_L (encOk_L encOk_int)) hr.units) (pv 16) (pv 15) (nomark _)) (pw_or1 (pt_cmpR (op_neT (encOk_L (encOk_L (encOk_L (encOk_L encOk_int)))) hr.units) (pv 5) (pv 6) (nomark _)))))) (pss_one (ps_ret pe_bl)) pss_nil)
      (pss_cons (ps_setLc (i := 17) (y := "spoilt") rfl sc_law.nd rfl rfl (sw_true rfl rfl rfl (by decide +kernel)) (own := [("row", 20)]) (g := gName 20) (pi_listK (K := K) (pv 15)) (blkOk_by (own := [("row", 20)]) (N := N_law) (sc := defScope s_law) (by decide +kernel)) (fun _ _ _ _ _ => (pg_name (i := 20) sc_law.nd rfl (Or.inl rfl))) (fun _ _ _ _ _ => pts_nil) (fun _ _ _ _ _ => (pe_callTy (call_listLK (K := K)) (by rfl) T.b_list (by decide +kernel) (pa_cons (pv 20) pa_nil))))
      (pss_cons (ps_asg (pe_un un_neg pe_int) (pg_sub (pe_ix (ix_listK (K := K)) (pv 16) pe_int (fun _ _ => rfl)) pe_int set_list))
      (pss_cons (ps_asg (pe_un un_neg pe_int) (pg_sub (pe_ix (ix_listK (K := K)) (pv 17) pe_int (fun _ _ => rfl)) pe_int set_list))
      (pss_one (ps_if (PW.pt (pw_or (pt_cmpR (op_neT (encOk_L (encOk_L encOk_int)) hr.units) (pv 16) (pv 17) (nomark _)) (pw_or1 (pt_cmpR (op_neT (encOk_L (encOk_L (encOk_L (encOk_L encOk_int)))) hr.units) (pv 5) (pv 6) (nomark _))))) (pss_one (ps_ret pe_bl)) pss_nil))))))))))))))))
      (pss_one (ps_ret pe_bl))))))))), ?_⟩
    obtain ⟨KK, EE, hK0, hE, hw⟩ := cW_gen hw
    have S0 := Sep.start0 H
    unfold F_law at hw
    refine ⟨_, rfl, rfl, rfl, H, _, _, _, rfl, S0.sG, (S0.b0.seq q_script), cW_call hw (fun v3932 hw => ?_) (fun e he => (hE e he).elim)⟩
    refine ⟨rfl, rfl, H, _, rfl, S0.sG, cW_call hw (fun v3933 hw v3936 H3934 G3937 e3935 eG3938 sG3939 hn3940 r3941 => ?_) (fun e he => (hE e he).elim)⟩
    have S3942 := S0.step e3935 eG3938 sG3939 hn3940
    obtain ⟨a3943, v3945, v3946, v3947, v3948, rfl, h3944, r3949, r3950, r3951, r3952⟩ := rp_tup4 r3941
    obtain ⟨a3953, rfl, h3954⟩ := rp_ints r3949
    obtain rfl := rp_int r3950
    obtain rfl := rp_int r3951
    obtain rfl := rp_int r3952
    refine ⟨_, rfl, _, _, _, _, rfl, rfl, (SqT.of (S3942.sG _ _ h3944)), rfl, _, rfl, _, rfl, _, _, _, _, rfl, rfl, (SqT.of (S3942.sG _ _ h3944)), rfl, _, rfl, _, _, _, _, rfl, rfl, (SqT.of (S3942.sG _ _ h3944)), rfl, _, rfl, _, _, _, _, rfl, rfl, (SqT.of (S3942.sG _ _ h3944)), rfl, rfl, rfl, G3937, _, _, _, _, _, rfl, S3942.sG, (hide_nil (S3942.sG _ _ h3954)), cW_call hw (fun v3955 hw H3956 p3958 l3959 l3960 dx3961 e3957 n3962 n3963 n3964 ne3968 h3965 h3966 h3967 => ?_) (fun e he => (hE e he).elim)⟩
    have fr3969 := S3942.free n3962
    have fr3970 := S3942.free n3963
    have fr3971 := S3942.free n3964
    have S3972 : Sep _ _ _ _ H3956 [p3958, l3959, l3960] := Sep.news S3942 e3957 [p3958, l3959, l3960] (all_cons ⟨n3962, some_ne h3965, fr3969⟩ (all_cons ⟨n3963, some_ne h3966, fr3970⟩ (all_cons ⟨n3964, some_ne h3967, fr3971⟩ all_nil)))
    obtain ⟨g3973, hw⟩ := cW_grd hw
    obtain ⟨g3974, hw⟩ := cW_grd hw
    obtain ⟨g3975, hw⟩ := cW_grd hw
    obtain ⟨g3976, hw⟩ := cW_grd hw
    refine ⟨_, rfl, _, _, _, _, rfl, rfl, (SqL.of (S3972.sG _ _ h3954)), (atI_map g3973), _, rfl, _, _, _, _, rfl, rfl, (SqL.of (S3972.sG _ _ h3954)), (atI_map g3974), _, rfl, _, _, _, _, rfl, rfl, (SqL.of (S3972.sG _ _ h3954)), (atI_map g3975), _, rfl, _, _, _, _, rfl, rfl, (SqL.of (S3972.sG _ _ h3954)), (atI_map g3976), rfl, rfl, fun x3977 dx3978 n3979 n3980 n3981 => ?_⟩
    generalize g3982 : upd (upd H3956 dx3978 _) x3977 _ = H3983
    obtain ⟨e3984, h3985⟩ := gen_obj n3979 n3980 n3981 g3982
    have fr3986 := S3972.free n3979
    have S3987 := S3972.new n3979 e3984 h3985 fr3986
    refine ⟨G3937, _, _, _, _, _, _, rfl, S3987.sG, (S3987.gno (all_cons (.head _) all_nil)), h3985, cW_call hw (fun v3988 hw H3989 x3990 h3991 => ⟨rfl, ?_⟩) (fun e he => (hE e he).elim)⟩
    have S3992 : Sep _ _ _ _ H3989 [x3977, p3958, l3959, l3960] := Sep.init S3987 x3990 (.head _) h3991 [] all_nil
    obtain ⟨g3993, hw⟩ := cW_grd hw
    obtain ⟨K3997, hK3998, hw⟩ := cW_push hw
    refine ⟨_, rfl, _, _, _, _, rfl, rfl, (SqT.of (S3992.sG _ _ h3944)), rfl, _, rfl, g3993.1, g3993.2, fun D3999 n4000 => lc_range (lo := 0) (n := Int.toNat (v3933.2.2.1)) (fun i H' => ∃ (G' : Hp) (acc4002 : (List (List (List (List Int))))) (vs4003 : List V), Same G3937 G' ∧ Sep [] H H G' H' [D3999, p3958, l3959, l3960, x3977] ∧ H' p3958 = some (.ins AD.c_PictureHeader dx3961 [("number", V.int (v3955.number)), ("kind", V.str (v3955.kind)), ("level", V.int (v3955.level)), ("store", V.ref l3959), ("refs", V.ref l3960), ("weight", V.int (v3955.weight)), ("layer", V.int (v3955.layer)), ("shown", V.bl (v3955.shown)), ("edge", V.int (v3955.edge))]) ∧ H' l3959 = some (.lst ((v3955.store : (List Int)).map V.int)) ∧ H' l3960 = some (.lst ((v3955.refs : (List Int)).map V.int)) ∧ H' x3977 = some (.ins AD.c_Format dx3978 [("width", V.int (v3988.width)), ("height", V.int (v3988.height)), ("depth", V.int (v3988.depth)), ("chroma", V.int (v3988.chroma))]) ∧ H' D3999 = some (.lst vs4003) ∧ RpAll G' vs4003 ((acc4002 : (List (List (List (List Int))))).map (encL (encL (encL PyData.int)))) ∧ Same H3989 H' ∧ cW (mapA (List.drop i (rng (0) (Int.toNat (v3933.2.2.1)))) acc4002 (fun x => noEr (F_law_c1 (script') (v3933.1) x))) K3997 EE) ?_ ?_ ?_⟩
    · generalize g4004 : upd H3989 D3999 _ = H4005
      obtain ⟨e4006, h4007⟩ := gen_new n4000 g4004
      have fr4008 := S3992.free n4000
      have S4009 := S3992.new n4000 e4006 h4007 fr4008
      have h4010 := (e4006 _ _ ((SameXs.of x3990) _ _ (e3984 _ _ h3965) (ni1 (ne_of_none h3965 n3979))))
      have h4011 := (e4006 _ _ ((SameXs.of x3990) _ _ (e3984 _ _ h3966) (ni1 (ne_of_none h3966 n3979))))
      have h4012 := (e4006 _ _ ((SameXs.of x3990) _ _ (e3984 _ _ h3967) (ni1 (ne_of_none h3967 n3979))))
      have h4013 := (e4006 _ _ h3991)
      exact ⟨_, [], [], Same.refl _, (S4009.sub (all_cons (.head _) (all_cons (.tail _ (.tail _ (.head _))) (all_cons (.tail _ (.tail _ (.tail _ (.head _)))) (all_cons (.tail _ (.tail _ (.tail _ (.tail _ (.head _))))) (all_cons (.tail _ (.head _)) all_nil)))))), h4010, h4011, h4012, h4013, h4007, RpAll.nil, e4006, hw⟩
    · intro i H4014 hi hw
      obtain ⟨G4017, acc4019, vs4020, eG4018, S4015, h4026, h4027, h4028, h4029, h4016, d4021, eo4025, hw⟩ := hw
      obtain ⟨z4030, hw⟩ := cW_mapA (rng_get hi) hw
      generalize (0 + (i : Int)) = x4031 at hw ⊢
      have hw := cW_noEr hw
      have hw : cW (F_law_c1 (script') (v3933.1) (x4031)) _ (fun _ => False) := hw
      unfold F_law_c1 at hw
      refine ⟨rfl, ?_⟩
      refine tyes_go ?_
      refine ⟨_, rfl, _, rfl, _, _, rfl, rfl, rfl, rfl, G4017, _, _, _, rfl, S4015.sG, (S4015.b0.seq q_script), cW_call hw (fun v4033 hw => ?_) (fun e he => he.elim)⟩
      refine ⟨_, rfl, rfl, rfl, G4017, _, _, _, rfl, S4015.sG, (hide_nil (S4015.sG _ _ (eG4018 _ _ h3954))), cW_call hw (fun v4034 hw v4037 H4035 G4038 e4036 eG4039 sG4040 hn4041 r4042 => ?_) (fun e he => he.elim)⟩
      have S4043 := S4015.step e4036 eG4039 sG4040 hn4041
      obtain ⟨a4044, vs4045, rfl, h4046, d4047⟩ := rp_list r4042
      have h4048 := (e4036 _ _ h4016)
      refine ⟨_, h4048, (app_len (RpAll.mono eG4039 d4021) z4030), ?_⟩
      generalize g4049 : upd H4035 D3999 _ = H4050
      obtain ⟨x4051, h4052⟩ := gen_mut g4049
      have S4053 := S4043.mut1 x4051 (.head _) h4052
      have hw := cW_ok hw
      have h4054 := (x4051 _ _ (e4036 _ _ h4026) (ne_of_none ((SameXs.of x3990) _ _ (e3984 _ _ h3965) (ni1 (ne_of_none h3965 n3979))) n4000))
      have h4055 := (x4051 _ _ (e4036 _ _ h4027) (ne_of_none ((SameXs.of x3990) _ _ (e3984 _ _ h3966) (ni1 (ne_of_none h3966 n3979))) n4000))
      have h4056 := (x4051 _ _ (e4036 _ _ h4028) (ne_of_none ((SameXs.of x3990) _ _ (e3984 _ _ h3967) (ni1 (ne_of_none h3967 n3979))) n4000))
      have h4057 := (x4051 _ _ (e4036 _ _ h4029) (ne_of_none h3991 n4000))
      exact ⟨_, (acc4019 ++ [v4034]), _, (Same.trans eG4018 eG4039), S4053, h4054, h4055, h4056, h4057, h4052, (app_map (RpAll.mono eG4039 d4021) (RpAll.one (rp_mk_list h4046 d4047))), (same_mut (Same.trans eo4025 e4036) x4051 n4000), hw⟩
    intro H4058 hw
    obtain ⟨G4061, acc4063, vs4064, eG4062, S4059, h4070, h4071, h4072, h4073, h4060, d4065, eo4069, hw⟩ := hw
    have hw := hK3998 _ (cW_mapA0 (rng_len _ _).symm hw)
    have fr4074 := S3992.free n4000
    obtain ⟨K4076, hK4077, hw⟩ := cW_push hw
    refine ⟨_, rfl, _, rfl, ⟨_, (SqL.of h4060)⟩, fun D4078 n4079 => lc_list (K := K) (a := D3999) (xs := vs4064) (fun i H' => ∃ (G' : Hp) (acc4081 : (List (List (List (List Int))))) (vs4082 : List V), Same G4061 G' ∧ Sep [] H H G' H' [D4078, p3958, l3959, l3960, x3977, D3999] ∧ H' p3958 = some (.ins AD.c_PictureHeader dx3961 [("number", V.int (v3955.number)), ("kind", V.str (v3955.kind)), ("level", V.int (v3955.level)), ("store", V.ref l3959), ("refs", V.ref l3960), ("weight", V.int (v3955.weight)), ("layer", V.int (v3955.layer)), ("shown", V.bl (v3955.shown)), ("edge", V.int (v3955.edge))]) ∧ H' l3959 = some (.lst ((v3955.store : (List Int)).map V.int)) ∧ H' l3960 = some (.lst ((v3955.refs : (List Int)).map V.int)) ∧ H' x3977 = some (.ins AD.c_Format dx3978 [("width", V.int (v3988.width)), ("height", V.int (v3988.height)), ("depth", V.int (v3988.depth)), ("chroma", V.int (v3988.chroma))]) ∧ H' D3999 = some (.lst (vs4064)) ∧ H' D4078 = some (.lst vs4082) ∧ RpAll G' vs4082 ((acc4081 : (List (List (List (List Int))))).map (encL (encL (encL PyData.int)))) ∧ Same H4058 H' ∧ cW (mapA (List.drop i (acc4063)) acc4081 (fun x => noEr (F_law_c2  x))) K4076 EE) ?_ ?_ ?_ ?_⟩
    · generalize g4083 : upd H4058 D4078 _ = H4084
      obtain ⟨e4085, h4086⟩ := gen_new n4079 g4083
      have fr4087 := S4059.free n4079
      have S4088 := S4059.new n4079 e4085 h4086 fr4087
      have h4089 := (e4085 _ _ h4070)
      have h4090 := (e4085 _ _ h4071)
      have h4091 := (e4085 _ _ h4072)
      have h4092 := (e4085 _ _ h4073)
      have h4093 := (e4085 _ _ h4060)
      exact ⟨_, [], [], Same.refl _, (S4088.sub (all_cons (.head _) (all_cons (.tail _ (.tail _ (.head _))) (all_cons (.tail _ (.tail _ (.tail _ (.head _)))) (all_cons (.tail _ (.tail _ (.tail _ (.tail _ (.head _))))) (all_cons (.tail _ (.tail _ (.tail _ (.tail _ (.tail _ (.head _)))))) (all_cons (.tail _ (.head _)) all_nil))))))), h4089, h4090, h4091, h4092, h4093, h4086, RpAll.nil, e4085, hw⟩
    · intro i H4094 _ hw
      obtain ⟨G4097, acc4099, vs4100, eG4098, S4095, h4106, h4107, h4108, h4109, h4110, h4096, d4101, eo4105, hw⟩ := hw
      exact (SqL.of h4110)
    · intro i x H4111 hj hw
      obtain ⟨G4114, acc4116, vs4117, eG4115, S4112, h4123, h4124, h4125, h4126, h4127, h4113, d4118, eo4122, hw⟩ := hw
      obtain ⟨x4128, hx, r4129⟩ := RpAll.get (RpAll.mono eG4115 d4065) hj
      obtain ⟨a4130, vs4131, rfl, h4132, d4133⟩ := rp_list r4129
      obtain ⟨z4134, hw⟩ := cW_mapA hx hw
      have hw := cW_noEr hw
      have hw : cW (F_law_c2  (x4128)) _ (fun _ => False) := hw
      unfold F_law_c2 at hw
      refine ⟨rfl, ?_⟩
      refine tyes_go ?_
      refine ⟨_, rfl, rfl, rfl, G4114, _, _, rfl, S4112.sG, (Rp.hide_nil (rp_mk_list (S4112.sG _ _ h4132) (RpAll.mono S4112.sG d4133))), cW_call hw (fun v4136 hw v4139 H4137 G4140 e4138 eG4141 sG4142 hn4143 r4144 => ?_) (fun e he => he.elim)⟩
      have S4145 := S4112.step e4138 eG4141 sG4142 hn4143
      obtain ⟨a4146, vs4147, rfl, h4148, d4149⟩ := rp_list r4144
      have h4150 := (e4138 _ _ h4113)
      refine ⟨_, h4150, (app_len (RpAll.mono eG4141 d4118) z4134), ?_⟩
      generalize g4151 : upd H4137 D4078 _ = H4152
      obtain ⟨x4153, h4154⟩ := gen_mut g4151
      have S4155 := S4145.mut1 x4153 (.head _) h4154
      have hw := cW_ok hw
      have h4156 := (x4153 _ _ (e4138 _ _ h4123) (ne_of_none h4070 n4079))
      have h4157 := (x4153 _ _ (e4138 _ _ h4124) (ne_of_none h4071 n4079))
      have h4158 := (x4153 _ _ (e4138 _ _ h4125) (ne_of_none h4072 n4079))
      have h4159 := (x4153 _ _ (e4138 _ _ h4126) (ne_of_none h4073 n4079))
      have h4160 := (x4153 _ _ (e4138 _ _ h4127) (ne_of_none h4060 n4079))
      exact ⟨_, (acc4116 ++ [v4136]), _, (Same.trans eG4115 eG4141), S4155, h4156, h4157, h4158, h4159, h4160, h4154, (app_map (RpAll.mono eG4141 d4118) (RpAll.one (rp_mk_list h4148 d4149))), (same_mut (Same.trans eo4122 e4138) x4153 n4079), hw⟩
    intro H4161 hw
    obtain ⟨G4164, acc4166, vs4167, eG4165, S4162, h4173, h4174, h4175, h4176, h4177, h4163, d4168, eo4172, hw⟩ := hw
    have hw := hK4077 _ (cW_mapA0 (by rw [(RpAll.mono eG4165 d4065).len, List.length_map]) hw)
    have fr4178 := S4059.free n4079
    refine ⟨(by show 1 ≤ sizeLine; decide), fun p4179 n4180 => ?_⟩
    generalize g4181 : upd H4161 p4179 _ = H4182
    obtain ⟨e4183, h4184⟩ := gen_new n4180 g4181
    have h4185 : H4182 p4179 = some (.lst (([0] : (List Int)).map V.int)) := h4184
    have fr4186 := S4162.free n4180
    have S4187 := S4162.new n4180 e4183 h4185 fr4186
    refine ⟨_, rfl, _, rfl, _, _, rfl, (S4187.b0.seq q_script), fun p4188 n4189 => ?_⟩
    generalize g4190 : upd H4182 p4188 _ = H4191
    obtain ⟨e4192, h4193⟩ := gen_new n4189 g4190
    have h4194 : H4191 p4188 = some (.lst ((cutL (script') (some (3)) none : (List Int)).map V.int)) := cut_map h4193
    have fr4195 := S4187.free n4189
    have S4196 := S4187.new n4189 e4192 h4194 fr4195
    obtain ⟨g4197, hw⟩ := cW_grd hw
    have h4198 := (e4192 _ _ h4185)
    refine ⟨_, _, _, _, rfl, rfl, h4198, h4194, (cat_lenM g4197), fun p4199 n4200 => ?_⟩
    generalize g4201 : upd H4191 p4199 _ = H4202
    obtain ⟨e4203, h4204⟩ := gen_new n4200 g4201
    have h4205 : H4202 p4199 = some (.lst ((([0]) ++ (cutL (script') (some (3)) none) : (List Int)).map V.int)) := cat_map h4204
    have fr4206 := S4196.free n4200
    have S4207 := S4196.new n4200 e4203 h4205 fr4206
    refine ⟨_, rfl, _, _, rfl, (SqL.of h4205), fun p4208 n4209 => ?_⟩
    generalize g4210 : upd H4202 p4208 _ = H4211
    obtain ⟨e4212, h4213⟩ := gen_new n4209 g4210
    have h4214 : H4211 p4208 = some (.lst ((cutL (([0]) ++ (cutL (script') (some (3)) none)) none (some (4)) : (List Int)).map V.int)) := cut_map h4213
    have fr4215 := S4207.free n4209
    have S4216 := S4207.new n4209 e4212 h4214 fr4215
    obtain ⟨K4223, hK4224, hw⟩ := cW_push hw
    refine ⟨_, rfl, ⟨_, (SqL.of h4214)⟩, for_list (K := K) (a := p4208) (xs := (cutL (([0]) ++ (cutL (script') (some (3)) none)) none (some (4)) : (List Int)).map V.int) (fun i σ H' => ∃ (u4225 : Option V) (u4226 : Option V) (u4227 : Option V) (u4228 : Option V) (u4229 : Option V) (u4230 : Option V) (u4231 : Option V) (u4232 : Option V) (u4233 : Option V) (u4234 : Option V) (u4235 : Option V) (G' : Hp), σ = [some (V.ref a_script), some (V.ref a3943), some (V.ref a3953), some (V.ref p3958), some (V.ref x3977), some (V.ref D3999), some (V.ref D4078), u4225, u4226, u4227, u4228, u4229, u4230, u4231, u4232, u4233, u4234, u4235, none, none, none] ∧ Same G4164 G' ∧ Sep [] H H G' H' [p3958, l3959, l3960, x3977, D3999, D4078, p4208] ∧ H' p3958 = some (.ins AD.c_PictureHeader dx3961 [("number", V.int (v3955.number)), ("kind", V.str (v3955.kind)), ("level", V.int (v3955.level)), ("store", V.ref l3959), ("refs", V.ref l3960), ("weight", V.int (v3955.weight)), ("layer", V.int (v3955.layer)), ("shown", V.bl (v3955.shown)), ("edge", V.int (v3955.edge))]) ∧ H' l3959 = some (.lst ((v3955.store : (List Int)).map V.int)) ∧ H' l3960 = some (.lst ((v3955.refs : (List Int)).map V.int)) ∧ H' x3977 = some (.ins AD.c_Format dx3978 [("width", V.int (v3988.width)), ("height", V.int (v3988.height)), ("depth", V.int (v3988.depth)), ("chroma", V.int (v3988.chroma))]) ∧ H' D3999 = some (.lst (vs4064)) ∧ H' D4078 = some (.lst (vs4167)) ∧ H' p4208 = some (.lst ((cutL (([0]) ++ (cutL (script') (some (3)) none)) none (some (4)) : (List Int)).map V.int)) ∧ cW (forR (List.drop i (cutL (([0]) ++ (cutL (script') (some (3)) none)) none (some (4)))) () (fun s x => F_law_b3 (v3933) (v3933.1) (v3955) (v3988) (acc4063) (acc4166)  x)) K4223 EE) ?_ ?_ ?_ ?_⟩
    · have h4236 := (e4212 _ _ (e4203 _ _ (e4192 _ _ (e4183 _ _ h4173))))
      have h4237 := (e4212 _ _ (e4203 _ _ (e4192 _ _ (e4183 _ _ h4174))))
      have h4238 := (e4212 _ _ (e4203 _ _ (e4192 _ _ (e4183 _ _ h4175))))
      have h4239 := (e4212 _ _ (e4203 _ _ (e4192 _ _ (e4183 _ _ h4176))))
      have h4240 := (e4212 _ _ (e4203 _ _ (e4192 _ _ (e4183 _ _ h4177))))
      have h4241 := (e4212 _ _ (e4203 _ _ (e4192 _ _ (e4183 _ _ h4163))))
      exact ⟨_, _, _, _, _, _, _, _, _, _, _, _, rfl, (Same.refl _), (S4216.sub (all_cons (.tail _ (.tail _ (.tail _ (.tail _ (.tail _ (.head _)))))) (all_cons (.tail _ (.tail _ (.tail _ (.tail _ (.tail _ (.tail _ (.head _))))))) (all_cons (.tail _ (.tail _ (.tail _ (.tail _ (.tail _ (.tail _ (.tail _ (.head _)))))))) (all_cons (.tail _ (.tail _ (.tail _ (.tail _ (.tail _ (.tail _ (.tail _ (.tail _ (.head _))))))))) (all_cons (.tail _ (.tail _ (.tail _ (.tail _ (.tail _ (.tail _ (.tail _ (.tail _ (.tail _ (.head _)))))))))) (all_cons (.tail _ (.tail _ (.tail _ (.tail _ (.head _))))) (all_cons (.head _) all_nil)))))))), h4236, h4237, h4238, h4239, h4240, h4241, h4214, hw⟩
    · intro i σ H4242 _ hw
      obtain ⟨u4225, u4226, u4227, u4228, u4229, u4230, u4231, u4232, u4233, u4234, u4235, G4251, rfl, eG4252, S4243, h4244, h4245, h4246, h4247, h4248, h4249, h4250, hw⟩ := hw
      exact (SqL.of h4250)
    · intro i x σ H4253 hj hw
      obtain ⟨u4225, u4226, u4227, u4228, u4229, u4230, u4231, u4232, u4233, u4234, u4235, G4262, rfl, eG4263, S4254, h4255, h4256, h4257, h4258, h4259, h4260, h4261, hw⟩ := hw
      obtain ⟨x4264, hx, rfl⟩ := map_get hj
      have hw := cW_forR hx hw
      have hw : cW (F_law_b3 (v3933) (v3933.1) (v3955) (v3988) (acc4063) (acc4166)  (x4264)) _ EE := hw
      unfold F_law_b3 at hw
      obtain ⟨K4265, hK4266, hw⟩ := cW_name hw
      refine ⟨_, rfl, .inl ⟨_, rfl, ?_⟩⟩
      refine ⟨_, _, rfl, rfl, (divW_lit (by decide) (by decide)), (by show 5 ≤ sizeLine; decide), fun p4268 n4269 => ?_⟩
      generalize g4270 : upd H4253 p4268 _ = H4271
      obtain ⟨e4272, h4273⟩ := gen_new n4269 g4270
      have h4274 : H4271 p4268 = some (.lst (([3, 16, 16, 8, 8] : (List Int)).map V.int)) := h4273
      have fr4275 := S4254.free n4269
      have S4276 := S4254.new n4269 e4272 h4274 fr4275
      refine ⟨rfl, rfl, G4262, _, _, _, rfl, S4276.sG, (hide_nil h4274), cW_call hw (fun v4277 hw p4280 H4278 n4281 e4279 h4282 => ?_) (fun e he => (hE e he).elim)⟩
      have h4283 : H4278 p4280 = some (.lst ((v4277 : (List Int)).map V.int)) := h4282
      have fr4284 := S4276.free n4281
      have S4285 := S4276.new n4281 e4279 h4283 fr4284
      obtain ⟨g4286, hw⟩ := cW_grd hw
      refine ⟨_, rfl, _, _, _, _, rfl, rfl, (SqL.of h4283), (atI_map g4286), .inl ⟨_, rfl, ?_⟩⟩
      obtain ⟨g4287, hw⟩ := cW_grd hw
      refine ⟨_, rfl, _, _, _, _, rfl, rfl, (SqL.of (S4285.sG _ _ (eG4263 _ _ (eG4165 _ _ (eG4062 _ _ h3954))))), (atI_map g4287), _, _, rfl, rfl, .inr ⟨_, rfl, ?_⟩⟩
      obtain ⟨g4288, hw⟩ := cW_grd hw
      refine ⟨_, _, rfl, rfl, (.inl ⟨by decide, by decide⟩), _, _, rfl, rfl, _, _, rfl, rfl, g4288, ?_⟩
      have hw := cW_bnd hw
      refine ⟨_, rfl, _, rfl, rfl, rfl, G4262, _, _, _, rfl, S4285.sG, (hide_nil (S4285.sG _ _ (eG4263 _ _ (eG4165 _ _ (eG4062 _ _ h3954))))), cW_call hw (fun v4290 hw v4293 H4291 G4294 e4292 eG4295 sG4296 hn4297 r4298 => ?_) (fun e he => (hE e he).elim)⟩
      have S4299 := S4285.step e4292 eG4295 sG4296 hn4297
      obtain ⟨a4300, v4302, v4303, rfl, h4301, r4304, r4305⟩ := rp_tup2 r4298
      obtain rfl := rp_int r4304
      obtain rfl := rp_int r4305
      obtain ⟨g4306, hw⟩ := cW_grd hw
      have h4307 := (e4292 _ _ h4283)
      refine ⟨_, rfl, _, _, _, _, rfl, rfl, (SqL.of h4307), (atI_map g4306), .inl ⟨_, rfl, ?_⟩⟩
      obtain ⟨g4308, hw⟩ := cW_grd hw
      refine ⟨_, rfl, _, _, _, _, rfl, rfl, (SqT.of (S4299.sG _ _ h4301)), rfl, _, _, rfl, rfl, g4308, ?_⟩
      have hw := cW_bnd hw
      obtain ⟨g4310, hw⟩ := cW_grd hw
      refine ⟨_, rfl, _, _, _, _, rfl, rfl, (SqL.of h4307), (atI_map g4310), .inl ⟨_, rfl, ?_⟩⟩
      obtain ⟨g4311, hw⟩ := cW_grd hw
      refine ⟨_, rfl, _, _, _, _, rfl, rfl, (SqT.of (S4299.sG _ _ h4301)), rfl, _, _, rfl, rfl, g4311, ?_⟩
      have hw := cW_bnd hw
      obtain ⟨g4313, hw⟩ := cW_grd hw
      obtain ⟨g4314, hw⟩ := cW_grd hw
      refine ⟨_, rfl, _, rfl, _, rfl, _, _, _, _, rfl, rfl, (SqL.of h4307), (atI_map g4313), _, _, rfl, rfl, _, rfl, _, _, _, _, rfl, rfl, (SqT.of (S4299.sG _ _ h4301)), rfl, _, rfl, _, _, rfl, rfl, _, _, rfl, _, rfl, _, _, _, _, rfl, rfl, (SqL.of h4307), (atI_map g4314), _, _, rfl, rfl, _, rfl, _, _, _, _, rfl, rfl, (SqT.of (S4299.sG _ _ h4301)), rfl, _, rfl, _, _, rfl, rfl, _, _, rfl, (by show 4 ≤ sizeLine; decide), fun p4315 n4316 => ?_⟩
      generalize g4317 : upd H4291 p4315 _ = H4318
      obtain ⟨e4319, h4320⟩ := gen_new n4316 g4317
      have h4321 : H4318 p4315 = some (.tup [V.int (((itD (v4277) (1)) % v4290.1)), V.int (((itD (v4277) (2)) % v4290.2)), V.int ((if (v4290.1 - ((itD (v4277) (1)) % v4290.1)) < (1 + (itD (v4277) (3))) then (v4290.1 - ((itD (v4277) (1)) % v4290.1)) else (1 + (itD (v4277) (3))))), V.int ((if (v4290.2 - ((itD (v4277) (2)) % v4290.2)) < (1 + (itD (v4277) (4))) then (v4290.2 - ((itD (v4277) (2)) % v4290.2)) else (1 + (itD (v4277) (4)))))]) := h4320
      have fr4322 := S4299.free n4316
      obtain ⟨G4324, eG4325, hg4326, S4323⟩ := S4299.grow n4316 e4319 h4321 fr4322
      refine ⟨_, rfl, _, rfl, _, _, _, _, rfl, rfl, (SqT.of (S4323.sG _ _ (eG4325 _ _ (eG4295 _ _ (eG4263 _ _ (eG4165 _ _ (eG4062 _ _ h3944))))))), rfl, _, rfl, _, _, _, _, rfl, rfl, (SqT.of (S4323.sG _ _ (eG4325 _ _ (eG4295 _ _ (eG4263 _ _ (eG4165 _ _ (eG4062 _ _ h3944))))))), rfl, rfl, rfl, G4324, _, _, _, rfl, S4323.sG, cW_call hw (fun v4327 hw v4330 H4328 G4331 e4329 eG4332 sG4333 hn4334 r4335 => ?_) (fun e he => (hE e he).elim)⟩
      have S4336 := S4323.step e4329 eG4332 sG4333 hn4334
      obtain ⟨a4337, v4339, v4340, v4341, v4342, rfl, h4338, r4343, r4344, r4345, r4346⟩ := rp_tup4 r4335
      obtain rfl := rp_int r4343
      obtain rfl := rp_int r4344
      have h4347 := (e4329 _ _ (e4319 _ _ (e4292 _ _ (e4279 _ _ (e4272 _ _ h4260)))))
      refine ⟨_, rfl, _, rfl, _, _, _, _, rfl, rfl, (SqT.of (S4336.sG _ _ (eG4332 _ _ (eG4325 _ _ (eG4295 _ _ (eG4263 _ _ (eG4165 _ _ (eG4062 _ _ h3944)))))))), rfl, _, rfl, _, _, _, _, rfl, rfl, (SqT.of (S4336.sG _ _ (eG4332 _ _ (eG4325 _ _ (eG4295 _ _ (eG4263 _ _ (eG4165 _ _ (eG4062 _ _ h3944)))))))), rfl, _, rfl, _, rfl, _, rfl, _, rfl, rfl, rfl, G4331, _, _, _, _, _, _, _, _, _, _, _, rfl, S4336.sG, (hide_nil (S4336.sG _ _ (eG4332 _ _ (eG4325 _ _ (eG4295 _ _ (eG4263 _ _ (eG4165 _ _ (eG4062 _ _ h3954)))))))), (Rp.hide_nil (rp_mk4 (S4336.sG _ _ h4338) (.int _) (.int _) (Rp.mono S4336.sG r4345) (Rp.mono S4336.sG r4346))), (Rp.hide_nil (rp_mk_list h4347 (RpAll.mono S4336.sG (RpAll.mono eG4332 (RpAll.mono eG4325 (RpAll.mono eG4295 (RpAll.mono eG4263 d4168))))))), (Rp.hide_nil (rp_mk4 (S4336.sG _ _ (eG4332 _ _ hg4326)) (.int _) (.int _) (.int _) (.int _))), cW_call hw (fun v4348 hw v4351 H4349 G4352 e4350 eG4353 sG4354 hn4355 r4356 => ?_) (fun e he => (hE e he).elim)⟩
      have S4357 := S4336.step e4350 eG4353 sG4354 hn4355
      obtain ⟨a4358, vs4359, rfl, h4360, d4361⟩ := rp_list r4356
      have h4362 := (e4350 _ _ (e4329 _ _ (e4319 _ _ (e4292 _ _ (e4279 _ _ (e4272 _ _ h4258))))))
      have h4363 := (e4350 _ _ (e4329 _ _ (e4319 _ _ (e4292 _ _ (e4279 _ _ (e4272 _ _ h4255))))))
      have h4364 := (e4350 _ _ (e4329 _ _ (e4319 _ _ (e4292 _ _ (e4279 _ _ (e4272 _ _ h4256))))))
      have h4365 := (e4350 _ _ (e4329 _ _ (e4319 _ _ (e4292 _ _ (e4279 _ _ (e4272 _ _ h4257))))))
      have h4366 := (e4350 _ _ (e4329 _ _ (e4319 _ _ (e4292 _ _ (e4279 _ _ (e4272 _ _ h4259))))))
      refine ⟨_, rfl, _, rfl, _, rfl, _, rfl, _, rfl, _, rfl, _, _, _, _, rfl, rfl, (SqT.of (S4357.sG _ _ (eG4353 _ _ (eG4332 _ _ hg4326)))), rfl, _, rfl, _, _, _, _, rfl, rfl, (SqT.of (S4357.sG _ _ (eG4353 _ _ (eG4332 _ _ hg4326)))), rfl, _, rfl, _, _, _, _, rfl, rfl, (SqT.of (S4357.sG _ _ (eG4353 _ _ (eG4332 _ _ hg4326)))), rfl, _, rfl, _, _, _, _, rfl, rfl, (SqT.of (S4357.sG _ _ (eG4353 _ _ (eG4332 _ _ hg4326)))), rfl, rfl, rfl, G4352, _, _, v3988, _, _, _, _, v3955, _, _, _, _, _, _, _, _, _, rfl, S4357.sG, (hide_nil h4362), (hide_nil h4363), (hide_nil h4364), (hide_nil h4365), (Rp.hide_nil (rp_mk4 (S4357.sG _ _ (eG4353 _ _ h4338)) (.int _) (.int _) (Rp.mono S4357.sG (Rp.mono eG4353 r4345)) (Rp.mono S4357.sG (Rp.mono eG4353 r4346)))), (Rp.hide_nil (rp_mk_list h4366 (RpAll.mono S4357.sG (RpAll.mono eG4353 (RpAll.mono eG4332 (RpAll.mono eG4325 (RpAll.mono eG4295 (RpAll.mono eG4263 (RpAll.mono eG4165 d4065))))))))), cW_call hw (fun v4367 hw H4368 a4370 vs4371 L4372 G4373 n4374 nb4375 nd4376 e4369 eG4377 sG4378 hn4379 ga4380 gL4381 h4382 w4383 => ?_) (fun e he => (hE e he).elim)⟩
      have fr4384 := S4357.free n4374
      have S4385 : Sep _ _ _ _ H4368 (a4370 :: (L4372 ++ (p4280 :: (p4268 :: (p3958 :: (l3959 :: (l3960 :: (x3977 :: (D3999 :: (D4078 :: (p4208 :: []))))))))))) := Sep.steptree S4357 e4369 eG4377 sG4378 hn4379 (a4370 :: L4372) (all_cons ⟨n4374, ga4380, some_ne h4382⟩ (fun b hb => ⟨nb4375 b hb, gL4381 b hb, OwAll.there w4383 b hb⟩))
      refine ⟨_, rfl, _, _, _, _, _, rfl, (.ty _), (.base (.lst h4382)), rfl, _, rfl, ?_⟩
      refine iteF ?_
      refine ⟨_, rfl, _, rfl, _, _, (rp_mk_list h4382 (OwAll.rpA w4383 (encO_L encO_I) S4385.sG)), (rp_mk_list (S4385.sG _ _ (eG4377 _ _ h4360)) (RpAll.mono S4385.sG (RpAll.mono eG4377 d4361))), _, rfl, ?_⟩
      refine iteN (fun c4386 => ?_) (fun c4386 => ?_)
      · have hw := cW_neg c4386 hw
        refine iteT ?_
        have hw := cW_ok hw
        have hw := hK4266 (.rt _) hw
        have hw := hK4224 (.rt _) hw
        have hw := cW_ok hw
        exact eq_bl (k _) (hK0 _ hw).symm
      · have hw := cW_pos c4386 hw
        have h4387 := (e4369 _ _ h4366)
        have h4388 := (e4369 _ _ (e4350 _ _ h4347))
        refine ⟨_, rfl, _, rfl, _, _, (rp_mk_list h4387 (RpAll.mono S4385.sG (RpAll.mono eG4377 (RpAll.mono eG4353 (RpAll.mono eG4332 (RpAll.mono eG4325 (RpAll.mono eG4295 (RpAll.mono eG4263 (RpAll.mono eG4165 d4065))))))))), (rp_mk_list h4388 (RpAll.mono S4385.sG (RpAll.mono eG4377 (RpAll.mono eG4353 (RpAll.mono eG4332 (RpAll.mono eG4325 (RpAll.mono eG4295 (RpAll.mono eG4263 d4168)))))))), _, rfl, ?_⟩
        refine iteN (fun c4389 => ?_) (fun c4389 => ?_)
        · have hw := cW_neg c4389 hw
          have hw := cW_ok hw
          have hw := hK4266 (.rt _) hw
          have hw := hK4224 (.rt _) hw
          have hw := cW_ok hw
          exact eq_bl (k _) (hK0 _ hw).symm
        · have hw := cW_pos c4389 hw
          obtain ⟨K4391, hK4392, hw⟩ := cW_push hw
          refine ⟨_, rfl, _, rfl, ⟨_, (SqL.of (S4385.sG _ _ (eG4377 _ _ h4360)))⟩, fun D4393 n4394 => lc_list (K := K) (a := a4358) (xs := vs4359) (fun i H' => ∃ (G' : Hp) (acc4396 : (List (List Int))) (vs4397 : List V) (L4395 : List Addr), Same G4373 G' ∧ Sep [] H H G' H' (D4393 :: (L4395 ++ (a4370 :: (p3958 :: (l3959 :: (l3960 :: (x3977 :: (D3999 :: (D4078 :: (p4280 :: (p4208 :: (L4372 ++ [])))))))))))) ∧ H' a4370 = some (.lst (vs4371)) ∧ H' p3958 = some (.ins AD.c_PictureHeader dx3961 [("number", V.int (v3955.number)), ("kind", V.str (v3955.kind)), ("level", V.int (v3955.level)), ("store", V.ref l3959), ("refs", V.ref l3960), ("weight", V.int (v3955.weight)), ("layer", V.int (v3955.layer)), ("shown", V.bl (v3955.shown)), ("edge", V.int (v3955.edge))]) ∧ H' l3959 = some (.lst ((v3955.store : (List Int)).map V.int)) ∧ H' l3960 = some (.lst ((v3955.refs : (List Int)).map V.int)) ∧ H' x3977 = some (.ins AD.c_Format dx3978 [("width", V.int (v3988.width)), ("height", V.int (v3988.height)), ("depth", V.int (v3988.depth)), ("chroma", V.int (v3988.chroma))]) ∧ H' D3999 = some (.lst (vs4064)) ∧ H' D4078 = some (.lst (vs4167)) ∧ H' p4280 = some (.lst ((v4277 : (List Int)).map V.int)) ∧ H' p4208 = some (.lst ((cutL (([0]) ++ (cutL (script') (some (3)) none)) none (some (4)) : (List Int)).map V.int)) ∧ H' D4393 = some (.lst vs4397) ∧ OwAll G' H' L4372 (vs4371) ((v4367 : (List (List Int))).map (oL oI)) ∧ OwAll G' H' L4395 vs4397 ((acc4396 : (List (List Int))).map (oL oI)) ∧ (∀ b ∈ L4395, H4368 b = none) ∧ (∀ b ∈ L4395, b ≠ D4393) ∧ Same H4368 H' ∧ cW (mapA (List.drop i (v4348)) acc4396 (fun x => noEr (F_law_c4  x))) K4391 EE) ?_ ?_ ?_ ?_⟩
          · generalize g4398 : upd H4368 D4393 _ = H4399
            obtain ⟨e4400, h4401⟩ := gen_new n4394 g4398
            have fr4402 := S4385.free n4394
            have S4403 := S4385.new n4394 e4400 h4401 fr4402
            have h4404 := (e4400 _ _ h4382)
            have h4405 := (e4400 _ _ (e4369 _ _ h4363))
            have h4406 := (e4400 _ _ (e4369 _ _ h4364))
            have h4407 := (e4400 _ _ (e4369 _ _ h4365))
            have h4408 := (e4400 _ _ (e4369 _ _ h4362))
            have h4409 := (e4400 _ _ h4387)
            have h4410 := (e4400 _ _ h4388)
            have h4411 := (e4400 _ _ (e4369 _ _ (e4350 _ _ (e4329 _ _ (e4319 _ _ h4307)))))
            have h4412 := (e4400 _ _ (e4369 _ _ (e4350 _ _ (e4329 _ _ (e4319 _ _ (e4292 _ _ (e4279 _ _ (e4272 _ _ h4261))))))))
            have w4413 : OwAll G4373 H4399 L4372 (vs4371) ((v4367 : (List (List Int))).map (oL oI)) := (OwAll.mono (Same.refl _) (keeps_same e4400) w4383)
            exact ⟨_, [], [], [], Same.refl _, (S4403.sub (all_cons (.head _) (all_app (L := []) all_nil (all_cons (.tail _ (.head _)) (all_cons (.tail _ (.tail _ (List.mem_append_right _ (.tail _ (.tail _ (.head _)))))) (all_cons (.tail _ (.tail _ (List.mem_append_right _ (.tail _ (.tail _ (.tail _ (.head _))))))) (all_cons (.tail _ (.tail _ (List.mem_append_right _ (.tail _ (.tail _ (.tail _ (.tail _ (.head _)))))))) (all_cons (.tail _ (.tail _ (List.mem_append_right _ (.tail _ (.tail _ (.tail _ (.tail _ (.tail _ (.head _))))))))) (all_cons (.tail _ (.tail _ (List.mem_append_right _ (.tail _ (.tail _ (.tail _ (.tail _ (.tail _ (.tail _ (.head _)))))))))) (all_cons (.tail _ (.tail _ (List.mem_append_right _ (.tail _ (.tail _ (.tail _ (.tail _ (.tail _ (.tail _ (.tail _ (.head _))))))))))) (all_cons (.tail _ (.tail _ (List.mem_append_right _ (.head _)))) (all_cons (.tail _ (.tail _ (List.mem_append_right _ (.tail _ (.tail _ (.tail _ (.tail _ (.tail _ (.tail _ (.tail _ (.tail _ (.head _)))))))))))) (all_app ((fun b hb => (.tail _ (.tail _ (List.mem_append_left _ hb)))) : ∀ b ∈ L4372, b ∈ (D4393 :: (a4370 :: (L4372 ++ (p4280 :: (p4268 :: (p3958 :: (l3959 :: (l3960 :: (x3977 :: (D3999 :: (D4078 :: (p4208 :: []))))))))))))) all_nil))))))))))))), h4404, h4405, h4406, h4407, h4408, h4409, h4410, h4411, h4412, h4401, w4413, OwAll.nil, all_nil, all_nil, e4400, hw⟩
          · intro i H4414 _ hw
            obtain ⟨G4417, acc4419, vs4420, L4422, eG4418, S4415, h4426, h4427, h4428, h4429, h4430, h4431, h4432, h4433, h4434, h4416, w4435, d4421, nb4423, nd4424, eo4425, hw⟩ := hw
            exact (SqL.of (S4415.sG _ _ (eG4418 _ _ (eG4377 _ _ h4360))))
          · intro i x H4436 hj hw
            obtain ⟨G4439, acc4441, vs4442, L4444, eG4440, S4437, h4448, h4449, h4450, h4451, h4452, h4453, h4454, h4455, h4456, h4438, w4457, d4443, nb4445, nd4446, eo4447, hw⟩ := hw
            obtain ⟨x4458, hx, r4459⟩ := RpAll.get (RpAll.mono eG4440 (RpAll.mono eG4377 d4361)) hj
            obtain ⟨a4460, rfl, h4461⟩ := rp_ints r4459
            obtain ⟨z4462, hw⟩ := cW_mapA hx hw
            have hw := cW_noEr hw
            have hw : cW (F_law_c4  (x4458)) _ (fun _ => False) := hw
            unfold F_law_c4 at hw
            refine ⟨rfl, ?_⟩
            refine tyes_go ?_
            refine ⟨_, rfl, _, _, rfl, (SqL.of (S4437.sG _ _ h4461)), fun p4464 n4465 => ?_⟩
            generalize g4466 : upd H4436 p4464 _ = H4467
            obtain ⟨e4468, h4469⟩ := gen_new n4465 g4466
            have h4470 : H4467 p4464 = some (.lst ((x4458 : (List Int)).map V.int)) := h4469
            have fr4471 := S4437.free n4465
            have S4472 := S4437.new n4465 e4468 h4470 fr4471
            have w4473 : OwAll G4439 H4467 L4444 (vs4442) ((acc4441 : (List (List Int))).map (oL oI)) := (OwAll.mono (Same.refl _) (keeps_same e4468) d4443)
            have h4474 := (e4468 _ _ h4438)
            refine ⟨_, h4474, (app_len (OwAll.rpA w4473 (encO_L encO_I) S4472.sG) z4462), ?_⟩
            generalize g4475 : upd H4467 D4393 _ = H4476
            obtain ⟨x4477, h4478⟩ := gen_mut g4475
            have S4479 := S4472.mut1 x4477 (.tail _ (.head _)) h4478
            have hw := cW_ok hw
            have h4480 := (x4477 _ _ (e4468 _ _ h4448) (ne_of_none h4382 n4394))
            have h4481 := (x4477 _ _ (e4468 _ _ h4449) (ne_of_none (e4369 _ _ h4363) n4394))
            have h4482 := (x4477 _ _ (e4468 _ _ h4450) (ne_of_none (e4369 _ _ h4364) n4394))
            have h4483 := (x4477 _ _ (e4468 _ _ h4451) (ne_of_none (e4369 _ _ h4365) n4394))
            have h4484 := (x4477 _ _ (e4468 _ _ h4452) (ne_of_none (e4369 _ _ h4362) n4394))
            have h4485 := (x4477 _ _ (e4468 _ _ h4453) (ne_of_none h4387 n4394))
            have h4486 := (x4477 _ _ (e4468 _ _ h4454) (ne_of_none h4388 n4394))
            have h4487 := (x4477 _ _ (e4468 _ _ h4455) (ne_of_none (e4369 _ _ (e4350 _ _ (e4329 _ _ (e4319 _ _ h4307)))) n4394))
            have h4488 := (x4477 _ _ (e4468 _ _ h4456) (ne_of_none (e4369 _ _ (e4350 _ _ (e4329 _ _ (e4319 _ _ (e4292 _ _ (e4279 _ _ (e4272 _ _ h4261))))))) n4394))
            have w4489 : OwAll G4439 H4476 L4372 (vs4371) ((v4367 : (List (List Int))).map (oL oI)) := (OwAll.mono (Same.refl _) (keeps_mut x4477 ((there_ne (fun b_ hb_ => (S4385.ow b_ (((fun b hb => (.tail _ (List.mem_append_left _ hb))) : ∀ b ∈ L4372, b ∈ (a4370 :: (L4372 ++ (p4280 :: (p4268 :: (p3958 :: (l3959 :: (l3960 :: (x3977 :: (D3999 :: (D4078 :: (p4208 :: [])))))))))))) b_ hb_)).2.1) n4394) : ∀ b ∈ L4372, b ≠ D4393)) (OwAll.mono (Same.refl _) (keeps_same e4468) w4457))
            exact ⟨_, (acc4441 ++ [x4458]), _, (L4444 ++ (p4464 :: ([] : List Addr))), eG4440, (S4479.sub (all_cons (.tail _ (.head _)) (all_app (all_app ((fun b hb => (.tail _ (.tail _ (List.mem_append_left _ hb)))) : ∀ b ∈ L4444, b ∈ (p4464 :: (D4393 :: (L4444 ++ (a4370 :: (p3958 :: (l3959 :: (l3960 :: (x3977 :: (D3999 :: (D4078 :: (p4280 :: (p4208 :: (L4372 ++ [])))))))))))))) (all_cons (.head _) all_nil)) (all_cons (.tail _ (.tail _ (List.mem_append_right _ (.head _)))) (all_cons (.tail _ (.tail _ (List.mem_append_right _ (.tail _ (.head _))))) (all_cons (.tail _ (.tail _ (List.mem_append_right _ (.tail _ (.tail _ (.head _)))))) (all_cons (.tail _ (.tail _ (List.mem_append_right _ (.tail _ (.tail _ (.tail _ (.head _))))))) (all_cons (.tail _ (.tail _ (List.mem_append_right _ (.tail _ (.tail _ (.tail _ (.tail _ (.head _)))))))) (all_cons (.tail _ (.tail _ (List.mem_append_right _ (.tail _ (.tail _ (.tail _ (.tail _ (.tail _ (.head _))))))))) (all_cons (.tail _ (.tail _ (List.mem_append_right _ (.tail _ (.tail _ (.tail _ (.tail _ (.tail _ (.tail _ (.head _)))))))))) (all_cons (.tail _ (.tail _ (List.mem_append_right _ (.tail _ (.tail _ (.tail _ (.tail _ (.tail _ (.tail _ (.tail _ (.head _))))))))))) (all_cons (.tail _ (.tail _ (List.mem_append_right _ (.tail _ (.tail _ (.tail _ (.tail _ (.tail _ (.tail _ (.tail _ (.tail _ (.head _)))))))))))) (all_app ((fun b hb => (.tail _ (.tail _ (List.mem_append_right _ (.tail _ (.tail _ (.tail _ (.tail _ (.tail _ (.tail _ (.tail _ (.tail _ (.tail _ (List.mem_append_left _ hb)))))))))))))) : ∀ b ∈ L4372, b ∈ (p4464 :: (D4393 :: (L4444 ++ (a4370 :: (p3958 :: (l3959 :: (l3960 :: (x3977 :: (D3999 :: (D4078 :: (p4280 :: (p4208 :: (L4372 ++ [])))))))))))))) all_nil))))))))))))), h4480, h4481, h4482, h4483, h4484, h4485, h4486, h4487, h4488, h4478, w4489, (OwAll.mono (Same.refl _) (keeps_mut x4477 ((all_app nd4446 (all_cons (ne_of_none h4438 n4465).symm all_nil)) : ∀ b ∈ (L4444 ++ (p4464 :: ([] : List Addr))), b ≠ D4393)) (OwAll.snocM w4473 (Ow.ints h4470) ((fun b hb => (nm_cons ((there_ne (fun b_ hb_ => (S4437.ow b_ (((fun b hb => (.tail _ (List.mem_append_left _ hb))) : ∀ b ∈ L4444, b ∈ (D4393 :: (L4444 ++ (a4370 :: (p3958 :: (l3959 :: (l3960 :: (x3977 :: (D3999 :: (D4078 :: (p4280 :: (p4208 :: (L4372 ++ []))))))))))))) b_ hb_)).2.1) n4465) b hb) nm_nil)) : ∀ b ∈ L4444, b ∉ (p4464 :: ([] : List Addr))))), ((all_app nb4445 (all_cons (none_of_same eo4447 n4465) all_nil)) : ∀ b ∈ (L4444 ++ (p4464 :: ([] : List Addr))), H4368 b = none), ((all_app nd4446 (all_cons (ne_of_none h4438 n4465).symm all_nil)) : ∀ b ∈ (L4444 ++ (p4464 :: ([] : List Addr))), b ≠ D4393), (same_mut (Same.trans eo4447 e4468) x4477 n4394), hw⟩
          intro H4490 hw
          obtain ⟨G4493, acc4495, vs4496, L4498, eG4494, S4491, h4502, h4503, h4504, h4505, h4506, h4507, h4508, h4509, h4510, h4492, w4511, d4497, nb4499, nd4500, eo4501, hw⟩ := hw
          have hw := hK4392 _ (cW_mapA0 (by rw [(RpAll.mono eG4494 (RpAll.mono eG4377 d4361)).len, List.length_map]) hw)
          have fr4512 := S4385.free n4394
          obtain ⟨g4513, hw⟩ := cW_grd hw
          obtain ⟨v4514, L4515, a4516, w4517, hs4518, up4519, gr4520⟩ := OwAll.partM (k := 0) w4511 g4513
          obtain ⟨b4521, rfl, rfl, h4522⟩ := Ow.toInts w4517
          obtain ⟨g4523, hw⟩ := cW_grd hw
          refine ⟨_, rfl, _, rfl, _, _, _, _, rfl, rfl, (SqL.of h4502), a4516, _, _, _, _, rfl, rfl, h4522, (ixN_map g4523), ?_⟩
          generalize g4524 : upd H4490 b4521 _ = H4525
          obtain ⟨x4526, h4527⟩ := gen_mut g4524
          have h4528 : H4525 b4521 = some (.lst ((setL ((itD (v4367) (0))) (0) ((-1)) : (List Int)).map V.int)) := set_map h4527
          have S4529 := S4491.mut1 x4526 ((((fun b hb => (.tail _ (List.mem_append_right _ (.tail _ (.tail _ (.tail _ (.tail _ (.tail _ (.tail _ (.tail _ (.tail _ (.tail _ (List.mem_append_left _ hb))))))))))))) : ∀ b ∈ L4372, b ∈ (D4393 :: (L4498 ++ (a4370 :: (p3958 :: (l3959 :: (l3960 :: (x3977 :: (D3999 :: (D4078 :: (p4280 :: (p4208 :: (L4372 ++ []))))))))))))) : ∀ b ∈ L4372, b ∈ (D4393 :: (L4498 ++ (a4370 :: (p3958 :: (l3959 :: (l3960 :: (x3977 :: (D3999 :: (D4078 :: (p4280 :: (p4208 :: (L4372 ++ []))))))))))))) _ (hs4518 _ List.mem_cons_self)) h4528
          have w4530 : OwAll G4493 H4525 L4372 (vs4371) ((setL (v4367) (0) (setL ((itD (v4367) (0))) (0) ((-1))) : (List (List Int))).map (oL oI)) := upd_tree up4519 x4526 List.mem_cons_self (Ow.ints h4528)
          have hw := cW_bnd hw
          obtain ⟨g4532, hw⟩ := cW_grd hw
          have w4533 : OwAll G4493 H4525 L4498 (vs4496) ((acc4495 : (List (List Int))).map (oL oI)) := (OwAll.mono (Same.refl _) (keeps_mut x4526 ((fun b hb z => (fun b hb => ((new_nl nb4499 (fun b_ hb_ => (S4385.ow b_ (((fun b hb => (.tail _ (List.mem_append_left _ hb))) : ∀ b ∈ L4372, b ∈ (a4370 :: (L4372 ++ (p4280 :: (p4268 :: (p3958 :: (l3959 :: (l3960 :: (x3977 :: (D3999 :: (D4078 :: (p4208 :: [])))))))))))) b_ hb_)).2.1)) b hb)) b hb (z ▸ (hs4518 _ List.mem_cons_self))) : ∀ b ∈ L4498, b ≠ b4521)) d4497)
          obtain ⟨v4534, L4535, a4536, w4537, hs4538, up4539, gr4540⟩ := OwAll.partM (k := 0) w4533 g4532
          have h4541 := (x4526 _ _ h4492 ((there_ne (fun b_ hb_ => (S4385.ow b_ (((fun b hb => (.tail _ (List.mem_append_left _ hb))) : ∀ b ∈ L4372, b ∈ (a4370 :: (L4372 ++ (p4280 :: (p4268 :: (p3958 :: (l3959 :: (l3960 :: (x3977 :: (D3999 :: (D4078 :: (p4208 :: [])))))))))))) b_ hb_)).2.1) n4394) _ (hs4518 _ List.mem_cons_self)).symm)
          obtain ⟨b4542, rfl, rfl, h4543⟩ := Ow.toInts w4537
          obtain ⟨g4544, hw⟩ := cW_grd hw
          refine ⟨_, rfl, _, rfl, _, _, _, _, rfl, rfl, (SqL.of h4541), a4536, _, _, _, _, rfl, rfl, h4543, (ixN_map g4544), ?_⟩
          generalize g4545 : upd H4525 b4542 _ = H4546
          obtain ⟨x4547, h4548⟩ := gen_mut g4545
          have h4549 : H4546 b4542 = some (.lst ((setL ((itD (acc4495) (0))) (0) ((-1)) : (List Int)).map V.int)) := set_map h4548
          have S4550 := S4529.mut1 x4547 ((((fun b hb => (.tail _ (List.mem_append_left _ hb))) : ∀ b ∈ L4498, b ∈ (D4393 :: (L4498 ++ (a4370 :: (p3958 :: (l3959 :: (l3960 :: (x3977 :: (D3999 :: (D4078 :: (p4280 :: (p4208 :: (L4372 ++ []))))))))))))) : ∀ b ∈ L4498, b ∈ (D4393 :: (L4498 ++ (a4370 :: (p3958 :: (l3959 :: (l3960 :: (x3977 :: (D3999 :: (D4078 :: (p4280 :: (p4208 :: (L4372 ++ []))))))))))))) _ (hs4538 _ List.mem_cons_self)) h4549
          have w4551 : OwAll G4493 H4546 L4498 (vs4496) ((setL (acc4495) (0) (setL ((itD (acc4495) (0))) (0) ((-1))) : (List (List Int))).map (oL oI)) := upd_tree up4539 x4547 List.mem_cons_self (Ow.ints h4549)
          have hw := cW_bnd hw
          have h4553 := (x4547 _ _ (x4526 _ _ h4502 (nd4376 _ (hs4518 _ List.mem_cons_self)).symm) ((new_ne2 nb4499 (S4385.ow _ (.head _)).2.1) _ (hs4538 _ List.mem_cons_self)).symm)
          have w4554 : OwAll G4493 H4546 L4372 (vs4371) ((setL (v4367) (0) (setL ((itD (v4367) (0))) (0) ((-1))) : (List (List Int))).map (oL oI)) := (OwAll.mono (Same.refl _) (keeps_mut x4547 ((fun b hb z => (fun b hb => ((nl_symm (new_nl nb4499 (fun b_ hb_ => (S4385.ow b_ (((fun b hb => (.tail _ (List.mem_append_left _ hb))) : ∀ b ∈ L4372, b ∈ (a4370 :: (L4372 ++ (p4280 :: (p4268 :: (p3958 :: (l3959 :: (l3960 :: (x3977 :: (D3999 :: (D4078 :: (p4208 :: [])))))))))))) b_ hb_)).2.1))) b hb)) b hb (z ▸ (hs4538 _ List.mem_cons_self))) : ∀ b ∈ L4372, b ≠ b4542)) w4530)
          have h4555 := (x4547 _ _ h4541 (nd4500 _ (hs4538 _ List.mem_cons_self)).symm)
          refine ⟨_, rfl, _, rfl, _, _, (rp_mk_list h4553 (OwAll.rpA w4554 (encO_L encO_I) S4550.sG)), (rp_mk_list h4555 (OwAll.rpA w4551 (encO_L encO_I) S4550.sG)), _, rfl, ?_⟩
          refine iteN (fun c4556 => ?_) (fun c4556 => ?_)
          · have hw := cW_neg c4556 hw
            refine iteT ?_
            have hw := cW_ok hw
            have hw := hK4266 (.rt _) hw
            have hw := hK4224 (.rt _) hw
            have hw := cW_ok hw
            exact eq_bl (k _) (hK0 _ hw).symm
          · have hw := cW_pos c4556 hw
            have h4557 := (x4547 _ _ (x4526 _ _ h4507 ((new_ne2 nb4375 (S4357.ow _ (.tail _ (.tail _ (.tail _ (.tail _ (.tail _ (.tail _ (.head _)))))))).2.1) _ (hs4518 _ List.mem_cons_self)).symm) ((new_ne2 nb4499 (S4385.ow _ (.tail _ (List.mem_append_right _ (.tail _ (.tail _ (.tail _ (.tail _ (.tail _ (.tail _ (.head _)))))))))).2.1) _ (hs4538 _ List.mem_cons_self)).symm)
            have h4558 := (x4547 _ _ (x4526 _ _ h4508 ((new_ne2 nb4375 (S4357.ow _ (.tail _ (.tail _ (.tail _ (.tail _ (.tail _ (.tail _ (.tail _ (.head _))))))))).2.1) _ (hs4518 _ List.mem_cons_self)).symm) ((new_ne2 nb4499 (S4385.ow _ (.tail _ (List.mem_append_right _ (.tail _ (.tail _ (.tail _ (.tail _ (.tail _ (.tail _ (.tail _ (.head _))))))))))).2.1) _ (hs4538 _ List.mem_cons_self)).symm)
            refine ⟨_, rfl, _, rfl, _, _, (rp_mk_list h4557 (RpAll.mono S4550.sG (RpAll.mono eG4494 (RpAll.mono eG4377 (RpAll.mono eG4353 (RpAll.mono eG4332 (RpAll.mono eG4325 (RpAll.mono eG4295 (RpAll.mono eG4263 (RpAll.mono eG4165 d4065)))))))))), (rp_mk_list h4558 (RpAll.mono S4550.sG (RpAll.mono eG4494 (RpAll.mono eG4377 (RpAll.mono eG4353 (RpAll.mono eG4332 (RpAll.mono eG4325 (RpAll.mono eG4295 (RpAll.mono eG4263 d4168))))))))), _, rfl, ?_⟩
            refine iteN (fun c4559 => ?_) (fun c4559 => ?_)
            · have hw := cW_neg c4559 hw
              have hw := cW_ok hw
              have hw := hK4266 (.rt _) hw
              have hw := hK4224 (.rt _) hw
              have hw := cW_ok hw
              exact eq_bl (k _) (hK0 _ hw).symm
            · have hw := cW_pos c4559 hw
              have hw := cW_ok hw
              have hw := hK4266 _ hw
              have h4560 := (x4547 _ _ (x4526 _ _ h4503 ((new_ne2 nb4375 (S4357.ow _ (.tail _ (.tail _ (.head _)))).2.1) _ (hs4518 _ List.mem_cons_self)).symm) ((new_ne2 nb4499 (S4385.ow _ (.tail _ (List.mem_append_right _ (.tail _ (.tail _ (.head _)))))).2.1) _ (hs4538 _ List.mem_cons_self)).symm)
              have h4561 := (x4547 _ _ (x4526 _ _ h4504 ((new_ne2 nb4375 (S4357.ow _ (.tail _ (.tail _ (.tail _ (.head _))))).2.1) _ (hs4518 _ List.mem_cons_self)).symm) ((new_ne2 nb4499 (S4385.ow _ (.tail _ (List.mem_append_right _ (.tail _ (.tail _ (.tail _ (.head _))))))).2.1) _ (hs4538 _ List.mem_cons_self)).symm)
              have h4562 := (x4547 _ _ (x4526 _ _ h4505 ((new_ne2 nb4375 (S4357.ow _ (.tail _ (.tail _ (.tail _ (.tail _ (.head _)))))).2.1) _ (hs4518 _ List.mem_cons_self)).symm) ((new_ne2 nb4499 (S4385.ow _ (.tail _ (List.mem_append_right _ (.tail _ (.tail _ (.tail _ (.tail _ (.head _)))))))).2.1) _ (hs4538 _ List.mem_cons_self)).symm)
              have h4563 := (x4547 _ _ (x4526 _ _ h4506 ((new_ne2 nb4375 (S4357.ow _ (.tail _ (.tail _ (.tail _ (.tail _ (.tail _ (.head _))))))).2.1) _ (hs4518 _ List.mem_cons_self)).symm) ((new_ne2 nb4499 (S4385.ow _ (.tail _ (List.mem_append_right _ (.tail _ (.tail _ (.tail _ (.tail _ (.tail _ (.head _))))))))).2.1) _ (hs4538 _ List.mem_cons_self)).symm)
              have h4564 := (x4547 _ _ (x4526 _ _ h4510 ((new_ne2 nb4375 (S4357.ow _ (.tail _ (.tail _ (.tail _ (.tail _ (.tail _ (.tail _ (.tail _ (.tail _ (.head _)))))))))).2.1) _ (hs4518 _ List.mem_cons_self)).symm) ((new_ne2 nb4499 (S4385.ow _ (.tail _ (List.mem_append_right _ (.tail _ (.tail _ (.tail _ (.tail _ (.tail _ (.tail _ (.tail _ (.tail _ (.head _)))))))))))).2.1) _ (hs4538 _ List.mem_cons_self)).symm)
              exact ⟨_, _, _, _, _, _, _, _, _, _, _, _, rfl, (Same.trans (Same.trans (Same.trans (Same.trans (Same.trans (Same.trans eG4263 eG4295) eG4325) eG4332) eG4353) eG4377) eG4494), (S4550.sub (all_cons (.tail _ (List.mem_append_right _ (.tail _ (.head _)))) (all_cons (.tail _ (List.mem_append_right _ (.tail _ (.tail _ (.head _))))) (all_cons (.tail _ (List.mem_append_right _ (.tail _ (.tail _ (.tail _ (.head _)))))) (all_cons (.tail _ (List.mem_append_right _ (.tail _ (.tail _ (.tail _ (.tail _ (.head _))))))) (all_cons (.tail _ (List.mem_append_right _ (.tail _ (.tail _ (.tail _ (.tail _ (.tail _ (.head _)))))))) (all_cons (.tail _ (List.mem_append_right _ (.tail _ (.tail _ (.tail _ (.tail _ (.tail _ (.tail _ (.head _))))))))) (all_cons (.tail _ (List.mem_append_right _ (.tail _ (.tail _ (.tail _ (.tail _ (.tail _ (.tail _ (.tail _ (.tail _ (.head _))))))))))) all_nil)))))))), h4560, h4561, h4562, h4563, h4557, h4558, h4564, hw⟩
    · intro σ H4565 hw
      obtain ⟨u4225, u4226, u4227, u4228, u4229, u4230, u4231, u4232, u4233, u4234, u4235, G4574, rfl, eG4575, S4566, h4567, h4568, h4569, h4570, h4571, h4572, h4573, hw⟩ := hw
      have hw := cW_aftgo (hK4224 _ (cW_forR0 (by rw [List.length_map]) hw))
      have hw : cW (F_law_r3  ) _ EE := hw
      unfold F_law_r3 at hw
      have hw := cW_ok hw
      exact eq_bl (k _) (hK0 _ hw).symm
end
def spL (K : PySem.W.Frag) : Sp := fun vs H Q _ => ∃ (a_script : Addr) (script : List Int), vs = [.ref a_script] ∧ SqL K H a_script (script.map V.int) ∧ script.length ≤ 63 ∧ ∀ H', Q (.bl true) H'
theorem all_mk {l : PySem.W.OpenLaw} {w : World} {K : PySem.W.Frag} {h : Heap} {mg : Str → Option Value} {fa : Addr} (X : K.In h) (G : h.Ns mainGlobals mg) (hfa : mg "law" = some (.ref fa))
    {f0 f1 f2 f3 f4 f5 f6 f7 f8 f9 f10 f11 f12 f13 f14 f15 f16 f17 f18 f19 f20 f21 f22 f23 f24 f25 f26 f27 f28 f29 f30 f31 CFormat CSettings CPictureHeader XBadFormat XBadHeader : Addr} {od0 an0 od1 an1 od2 an2 od3 an3 od4 an4 od5 an5 od6 an6 od7 an7 od8 an8 od9 an9 od10 an10 od11 an11 od12 an12 od13 an13 od14 an14 od15 an15 od16 an16 od17 an17 od18 an18 od19 an19 od20 an20 od21 an21 od22 an22 od23 an23 od24 an24 od25 an25 od26 an26 od27 an27 od28 an28 od29 an29 od30 an30 od31 an31 : Option Addr} {sl0 sl1 sl2 sl3 sl4 sl5 sl6 sl7 sl8 sl9 sl10 sl11 sl12 sl13 sl14 sl15 sl16 sl17 sl18 sl19 sl20 sl21 sl22 sl23 sl24 sl25 sl26 sl27 sl28 sl29 sl30 sl31 : Array (Option Value)} {oc0 kV0 dc0 pm0 cd0 ct0 oc1 kV1 dc1 pm1 cd1 ct1 oc2 kV2 dc2 pm2 cd2 ct2 oc3 kV3 dc3 pm3 cd3 ct3 oc4 dc4 pm4 cd4 ct4 oc5 kV5 dc5 pm5 cd5 ct5 oc6 kV6 dc6 pm6 cd6 ct6 oc7 dc7 pm7 cd7 ct7 oc8 dc8 pm8 cd8 ct8 oc9 kV9 dc9 pm9 cd9 ct9 oc10 kV10 dc10 pm10 cd10 ct10 oc11 kV11 dc11 pm11 cd11 ct11 oc12 kV12 dc12 pm12 cd12 ct12 oc13 kV13 dc13 pm13 cd13 ct13 oc14 kV14 dc14 pm14 cd14 ct14 oc15 kV15 dc15 pm15 cd15 ct15 oc16 kV16 dc16 pm16 cd16 ct16 oc17 kV17 dc17 pm17 cd17 ct17 oc18 kV18 dc18 pm18 cd18 ct18 oc19 kV19 dc19 pm19 cd19 ct19 oc20 kV20 dc20 pm20 cd20 ct20 oc21 kV21 dc21 pm21 cd21 ct21 oc22 kV22 dc22 pm22 cd22 ct22 oc23 kV23 dc23 pm23 cd23 ct23 oc24 kV24 dc24 pm24 cd24 ct24 oc25 kV25 dc25 pm25 cd25 ct25 oc26 kV26 dc26 pm26 cd26 ct26 oc27 kV27 dc27 pm27 cd27 ct27 oc28 kV28 dc28 pm28 cd28 ct28 oc29 kV29 dc29 pm29 cd29 ct29 oc30 kV30 dc30 pm30 cd30 ct30 oc31 kV31 dc31 pm31 cd31 ct31 : Value} {D4 : Addr} {ktk4_0 : Tok} {ktk4_1 : Tok} {ktk4_4 : Tok} {D7 : Addr} {ktk7_0 : Tok} {ktk7_1 : Tok} {ktk7_4 : Tok} {ktk7_5 : Tok} {ktk7_7 : Tok} {D8 : Addr} {ktk8_0 : Tok} {ktk8_1 : Tok} {q27 : Addr} {rs27 : List Value} {TG_KINDS : Addr} {td4 : Option Addr} {tn4 : Nat} {tsl4 : Array (Option Value)} {tk4_0 tk4_1 tk4_2 : Tok} {TG_REF_COUNTS : Addr} {tn9 : Nat} {tk9_0 tk9_1 tk9_2 : Tok} {th9_0 th9_1 th9_2 : Int} {TG_REF_COUNTS_2 : Addr} {td9_2 : Option Addr} {tn9_2 : Nat} {tsl9_2 : Array (Option Value)} {tk9_2_0 : Tok} {TG_REF_COUNTS_1 : Addr} {td9_1 : Option Addr} {tn9_1 : Nat} {tsl9_1 : Array (Option Value)} {tk9_1_0 tk9_1_1 : Tok} {TG_REF_COUNTS_0 : Addr} {td9_0 : Option Addr} {tn9_0 : Nat} {tsl9_0 : Array (Option Value)} {tk9_0_0 : Tok} {TG_WEIGHTS : Addr} {td16 : Option Addr} {tn16 : Nat} {tsl16 : Array (Option Value)} {TG_WEIGHTS_0 : Addr} {td16_0 : Option Addr} {tn16_0 : Nat} {tsl16_0 : Array (Option Value)} {tk16_0_0 tk16_0_1 tk16_0_2 tk16_0_3 tk16_0_4 tk16_0_5 : Tok} {TG_WEIGHTS_1 : Addr} {td16_1 : Option Addr} {tn16_1 : Nat} {tsl16_1 : Array (Option Value)} {tk16_1_0 tk16_1_1 tk16_1_2 tk16_1_3 tk16_1_4 tk16_1_5 : Tok} {TG_WEIGHTS_2 : Addr} {td16_2 : Option Addr} {tn16_2 : Nat} {tsl16_2 : Array (Option Value)} {tk16_2_0 tk16_2_1 tk16_2_2 tk16_2_3 tk16_2_4 tk16_2_5 : Tok} {TG_WEIGHTS_3 : Addr} {td16_3 : Option Addr} {tn16_3 : Nat} {tsl16_3 : Array (Option Value)} {tk16_3_0 tk16_3_1 tk16_3_2 tk16_3_3 tk16_3_4 tk16_3_5 : Tok} {TD_PictureHeader___init___store : Addr} {tddPictureHeader___init___store : Option Addr} {tdnPictureHeader___init___store : Nat} {tdsPictureHeader___init___store : Array (Option Value)} {TD_PictureHeader___init___refs : Addr} {tddPictureHeader___init___refs : Option Addr} {tdnPictureHeader___init___refs : Nat} {tdsPictureHeader___init___refs : Array (Option Value)} {tk3 tk5 tk6 tk17 : Tok}
    (wFormat : PySem.W.nsIn K mainGlobals "Format" = some (some (.ref CFormat))) (wSettings : PySem.W.nsIn K mainGlobals "Settings" = some (some (.ref CSettings))) (wPictureHeader : PySem.W.nsIn K mainGlobals "PictureHeader" = some (some (.ref CPictureHeader))) (vBadFormat : PySem.W.nsIn K mainGlobals "BadFormat" = some (some (.ref XBadFormat))) (vBadHeader : PySem.W.nsIn K mainGlobals "BadHeader" = some (some (.ref XBadHeader))) (a0 : PySem.W.nsIn K mainGlobals "_law_draws" = some (some (.ref f0))) (l0 : K.lookup f0 = some ⟨oc0, od0, .func (PySem.W.fnOf "_law_draws" "_law_draws" (defArgs s__law_draws) (defBody s__law_draws) (defScope s__law_draws) .none kV0 dc0 pm0 an0 cd0 ct0), sl0⟩) (c0 : PySem.W.codeIn K cd0 "_law_draws" = true) (k0 : PySem.W.keepIn K (.ref f0) = true) (a1 : PySem.W.nsIn K mainGlobals "_law_between" = some (some (.ref f1))) (l1 : K.lookup f1 = some ⟨oc1, od1, .func (PySem.W.fnOf "_law_between" "_law_between" (defArgs s__law_between) (defBody s__law_between) (defScope s__law_between) .none kV1 dc1 pm1 an1 cd1 ct1), sl1⟩) (c1 : PySem.W.codeIn K cd1 "_law_between" = true) (k1 : PySem.W.keepIn K (.ref f1) = true) (a2 : PySem.W.nsIn K mainGlobals "_law_inter" = some (some (.ref f2))) (l2 : K.lookup f2 = some ⟨oc2, od2, .func (PySem.W.fnOf "_law_inter" "_law_inter" (defArgs s__law_inter) (defBody s__law_inter) (defScope s__law_inter) .none kV2 dc2 pm2 an2 cd2 ct2), sl2⟩) (c2 : PySem.W.codeIn K cd2 "_law_inter" = true) (k2 : PySem.W.keepIn K (.ref f2) = true) (a3 : PySem.W.nsIn K mainGlobals "_require" = some (some (.ref f3))) (l3 : K.lookup f3 = some ⟨oc3, od3, .func (PySem.W.fnOf "_require" "_require" (defArgs s__require) (defBody s__require) (defScope s__require) .none kV3 dc3 pm3 an3 cd3 ct3), sl3⟩) (c3 : PySem.W.codeIn K cd3 "_require" = true) (k3 : PySem.W.keepIn K (.ref f3) = true) (a4 : PySem.W.findIn K (.ref CSettings) "__init__" = some (some (.ref f4))) (b4 : PySem.W.isFn K (.ref f4) = true) (d4 : PySem.W.makesIn K CSettings = true) (e4 : PySem.W.keepIn K (.ref CSettings) = true) (l4 : K.lookup f4 = some ⟨oc4, od4, .func (PySem.W.fnOf "__init__" "Settings.__init__" (defArgs s_Settings___init__) (defBody s_Settings___init__) (defScope s_Settings___init__) .none (.ref D4) dc4 pm4 an4 cd4 ct4), sl4⟩) (c4 : PySem.W.codeIn K cd4 "Settings.__init__" = true) (k4 : PySem.W.keepIn K (.ref f4) = true) (kd4_0 : PySem.W.nsIn K D4 "slots" = some (some (.int 1 ktk4_0))) (kd4_1 : PySem.W.nsIn K D4 "rows" = some (some (.int 1 ktk4_1))) (kd4_2 : PySem.W.nsIn K D4 "deblock" = some (some (.bool false))) (kd4_3 : PySem.W.nsIn K D4 "offset" = some (some (.bool false))) (kd4_4 : PySem.W.nsIn K D4 "layers" = some (some (.int 1 ktk4_4))) (a5 : PySem.W.nsIn K mainGlobals "_check_numbers" = some (some (.ref f5))) (l5 : K.lookup f5 = some ⟨oc5, od5, .func (PySem.W.fnOf "_check_numbers" "_check_numbers" (defArgs s__check_numbers) (defBody s__check_numbers) (defScope s__check_numbers) .none kV5 dc5 pm5 an5 cd5 ct5), sl5⟩) (c5 : PySem.W.codeIn K cd5 "_check_numbers" = true) (k5 : PySem.W.keepIn K (.ref f5) = true) (a6 : PySem.W.nsIn K mainGlobals "_check_slots" = some (some (.ref f6))) (l6 : K.lookup f6 = some ⟨oc6, od6, .func (PySem.W.fnOf "_check_slots" "_check_slots" (defArgs s__check_slots) (defBody s__check_slots) (defScope s__check_slots) .none kV6 dc6 pm6 an6 cd6 ct6), sl6⟩) (c6 : PySem.W.codeIn K cd6 "_check_slots" = true) (k6 : PySem.W.keepIn K (.ref f6) = true) (a7 : PySem.W.findIn K (.ref CPictureHeader) "__init__" = some (some (.ref f7))) (b7 : PySem.W.isFn K (.ref f7) = true) (d7 : PySem.W.makesIn K CPictureHeader = true) (e7 : PySem.W.keepIn K (.ref CPictureHeader) = true) (l7 : K.lookup f7 = some ⟨oc7, od7, .func (PySem.W.fnOf "__init__" "PictureHeader.__init__" (defArgs s_PictureHeader___init__) (defBody s_PictureHeader___init__) (defScope s_PictureHeader___init__) .none (.ref D7) dc7 pm7 an7 cd7 ct7), sl7⟩) (c7 : PySem.W.codeIn K cd7 "PictureHeader.__init__" = true) (k7 : PySem.W.keepIn K (.ref f7) = true) (kd7_0 : PySem.W.nsIn K D7 "kind" = some (some (.str "I" ktk7_0))) (kd7_1 : PySem.W.nsIn K D7 "level" = some (some (.int 0 ktk7_1))) (kd7_2 : PySem.W.nsIn K D7 "store" = some (some (.ref TD_PictureHeader___init___store))) (kd7_3 : PySem.W.nsIn K D7 "refs" = some (some (.ref TD_PictureHeader___init___refs))) (kd7_4 : PySem.W.nsIn K D7 "weight" = some (some (.int 8 ktk7_4))) (kd7_5 : PySem.W.nsIn K D7 "layer" = some (some (.int 0 ktk7_5))) (kd7_6 : PySem.W.nsIn K D7 "shown" = some (some (.bool true))) (kd7_7 : PySem.W.nsIn K D7 "edge" = some (some (.int 0 ktk7_7))) (a8 : PySem.W.findIn K (.ref CFormat) "__init__" = some (some (.ref f8))) (b8 : PySem.W.isFn K (.ref f8) = true) (d8 : PySem.W.makesIn K CFormat = true) (e8 : PySem.W.keepIn K (.ref CFormat) = true) (l8 : K.lookup f8 = some ⟨oc8, od8, .func (PySem.W.fnOf "__init__" "Format.__init__" (defArgs s_Format___init__) (defBody s_Format___init__) (defScope s_Format___init__) .none (.ref D8) dc8 pm8 an8 cd8 ct8), sl8⟩) (c8 : PySem.W.codeIn K cd8 "Format.__init__" = true) (k8 : PySem.W.keepIn K (.ref f8) = true) (kd8_0 : PySem.W.nsIn K D8 "depth" = some (some (.int 8 ktk8_0))) (kd8_1 : PySem.W.nsIn K D8 "chroma" = some (some (.int 0 ktk8_1))) (a9 : PySem.W.nsIn K mainGlobals "_law_header" = some (some (.ref f9))) (l9 : K.lookup f9 = some ⟨oc9, od9, .func (PySem.W.fnOf "_law_header" "_law_header" (defArgs s__law_header) (defBody s__law_header) (defScope s__law_header) .none kV9 dc9 pm9 an9 cd9 ct9), sl9⟩) (c9 : PySem.W.codeIn K cd9 "_law_header" = true) (k9 : PySem.W.keepIn K (.ref f9) = true) (a10 : PySem.W.nsIn K mainGlobals "_law_cell" = some (some (.ref f10))) (l10 : K.lookup f10 = some ⟨oc10, od10, .func (PySem.W.fnOf "_law_cell" "_law_cell" (defArgs s__law_cell) (defBody s__law_cell) (defScope s__law_cell) .none kV10 dc10 pm10 an10 cd10 ct10), sl10⟩) (c10 : PySem.W.codeIn K cd10 "_law_cell" = true) (k10 : PySem.W.keepIn K (.ref f10) = true) (a11 : PySem.W.nsIn K mainGlobals "_law_coded" = some (some (.ref f11))) (l11 : K.lookup f11 = some ⟨oc11, od11, .func (PySem.W.fnOf "_law_coded" "_law_coded" (defArgs s__law_coded) (defBody s__law_coded) (defScope s__law_coded) .none kV11 dc11 pm11 an11 cd11 ct11), sl11⟩) (c11 : PySem.W.codeIn K cd11 "_law_coded" = true) (k11 : PySem.W.keepIn K (.ref f11) = true) (a12 : PySem.W.nsIn K mainGlobals "_law_plane" = some (some (.ref f12))) (l12 : K.lookup f12 = some ⟨oc12, od12, .func (PySem.W.fnOf "_law_plane" "_law_plane" (defArgs s__law_plane) (defBody s__law_plane) (defScope s__law_plane) .none kV12 dc12 pm12 an12 cd12 ct12), sl12⟩) (c12 : PySem.W.codeIn K cd12 "_law_plane" = true) (k12 : PySem.W.keepIn K (.ref f12) = true) (a13 : PySem.W.nsIn K mainGlobals "_law_reference" = some (some (.ref f13))) (l13 : K.lookup f13 = some ⟨oc13, od13, .func (PySem.W.fnOf "_law_reference" "_law_reference" (defArgs s__law_reference) (defBody s__law_reference) (defScope s__law_reference) .none kV13 dc13 pm13 an13 cd13 ct13), sl13⟩) (c13 : PySem.W.codeIn K cd13 "_law_reference" = true) (k13 : PySem.W.keepIn K (.ref f13) = true) (a14 : PySem.W.nsIn K mainGlobals "_law_copy" = some (some (.ref f14))) (l14 : K.lookup f14 = some ⟨oc14, od14, .func (PySem.W.fnOf "_law_copy" "_law_copy" (defArgs s__law_copy) (defBody s__law_copy) (defScope s__law_copy) .none kV14 dc14 pm14 an14 cd14 ct14), sl14⟩) (c14 : PySem.W.codeIn K cd14 "_law_copy" = true) (k14 : PySem.W.keepIn K (.ref f14) = true) (a15 : PySem.W.nsIn K mainGlobals "_law_component" = some (some (.ref f15))) (l15 : K.lookup f15 = some ⟨oc15, od15, .func (PySem.W.fnOf "_law_component" "_law_component" (defArgs s__law_component) (defBody s__law_component) (defScope s__law_component) .none kV15 dc15 pm15 an15 cd15 ct15), sl15⟩) (c15 : PySem.W.codeIn K cd15 "_law_component" = true) (k15 : PySem.W.keepIn K (.ref f15) = true) (a16 : PySem.W.nsIn K mainGlobals "_law_motion" = some (some (.ref f16))) (l16 : K.lookup f16 = some ⟨oc16, od16, .func (PySem.W.fnOf "_law_motion" "_law_motion" (defArgs s__law_motion) (defBody s__law_motion) (defScope s__law_motion) .none kV16 dc16 pm16 an16 cd16 ct16), sl16⟩) (c16 : PySem.W.codeIn K cd16 "_law_motion" = true) (k16 : PySem.W.keepIn K (.ref f16) = true) (a17 : PySem.W.nsIn K mainGlobals "_law_at" = some (some (.ref f17))) (l17 : K.lookup f17 = some ⟨oc17, od17, .func (PySem.W.fnOf "_law_at" "_law_at" (defArgs s__law_at) (defBody s__law_at) (defScope s__law_at) .none kV17 dc17 pm17 an17 cd17 ct17), sl17⟩) (c17 : PySem.W.codeIn K cd17 "_law_at" = true) (k17 : PySem.W.keepIn K (.ref f17) = true) (a18 : PySem.W.nsIn K mainGlobals "_law_eighth" = some (some (.ref f18))) (l18 : K.lookup f18 = some ⟨oc18, od18, .func (PySem.W.fnOf "_law_eighth" "_law_eighth" (defArgs s__law_eighth) (defBody s__law_eighth) (defScope s__law_eighth) .none kV18 dc18 pm18 an18 cd18 ct18), sl18⟩) (c18 : PySem.W.codeIn K cd18 "_law_eighth" = true) (k18 : PySem.W.keepIn K (.ref f18) = true) (a19 : PySem.W.nsIn K mainGlobals "_law_quarter" = some (some (.ref f19))) (l19 : K.lookup f19 = some ⟨oc19, od19, .func (PySem.W.fnOf "_law_quarter" "_law_quarter" (defArgs s__law_quarter) (defBody s__law_quarter) (defScope s__law_quarter) .none kV19 dc19 pm19 an19 cd19 ct19), sl19⟩) (c19 : PySem.W.codeIn K cd19 "_law_quarter" = true) (k19 : PySem.W.keepIn K (.ref f19) = true) (a20 : PySem.W.nsIn K mainGlobals "_law_rows" = some (some (.ref f20))) (l20 : K.lookup f20 = some ⟨oc20, od20, .func (PySem.W.fnOf "_law_rows" "_law_rows" (defArgs s__law_rows) (defBody s__law_rows) (defScope s__law_rows) .none kV20 dc20 pm20 an20 cd20 ct20), sl20⟩) (c20 : PySem.W.codeIn K cd20 "_law_rows" = true) (k20 : PySem.W.keepIn K (.ref f20) = true) (a21 : PySem.W.nsIn K mainGlobals "_law_predict" = some (some (.ref f21))) (l21 : K.lookup f21 = some ⟨oc21, od21, .func (PySem.W.fnOf "_law_predict" "_law_predict" (defArgs s__law_predict) (defBody s__law_predict) (defScope s__law_predict) .none kV21 dc21 pm21 an21 cd21 ct21), sl21⟩) (c21 : PySem.W.codeIn K cd21 "_law_predict" = true) (k21 : PySem.W.keepIn K (.ref f21) = true) (a22 : PySem.W.nsIn K mainGlobals "clip" = some (some (.ref f22))) (l22 : K.lookup f22 = some ⟨oc22, od22, .func (PySem.W.fnOf "clip" "clip" (defArgs s_clip) (defBody s_clip) (defScope s_clip) .none kV22 dc22 pm22 an22 cd22 ct22), sl22⟩) (c22 : PySem.W.codeIn K cd22 "clip" = true) (k22 : PySem.W.keepIn K (.ref f22) = true) (a23 : PySem.W.nsIn K mainGlobals "_samples" = some (some (.ref f23))) (l23 : K.lookup f23 = some ⟨oc23, od23, .func (PySem.W.fnOf "_samples" "_samples" (defArgs s__samples) (defBody s__samples) (defScope s__samples) .none kV23 dc23 pm23 an23 cd23 ct23), sl23⟩) (c23 : PySem.W.codeIn K cd23 "_samples" = true) (k23 : PySem.W.keepIn K (.ref f23) = true) (a24 : PySem.W.nsIn K mainGlobals "_weighted" = some (some (.ref f24))) (l24 : K.lookup f24 = some ⟨oc24, od24, .func (PySem.W.fnOf "_weighted" "_weighted" (defArgs s__weighted) (defBody s__weighted) (defScope s__weighted) .none kV24 dc24 pm24 an24 cd24 ct24), sl24⟩) (c24 : PySem.W.codeIn K cd24 "_weighted" = true) (k24 : PySem.W.keepIn K (.ref f24) = true) (a25 : PySem.W.nsIn K mainGlobals "quarter_area" = some (some (.ref f25))) (l25 : K.lookup f25 = some ⟨oc25, od25, .func (PySem.W.fnOf "quarter_area" "quarter_area" (defArgs s_quarter_area) (defBody s_quarter_area) (defScope s_quarter_area) .none kV25 dc25 pm25 an25 cd25 ct25), sl25⟩) (c25 : PySem.W.codeIn K cd25 "quarter_area" = true) (k25 : PySem.W.keepIn K (.ref f25) = true) (a26 : PySem.W.nsIn K mainGlobals "eighth_area" = some (some (.ref f26))) (l26 : K.lookup f26 = some ⟨oc26, od26, .func (PySem.W.fnOf "eighth_area" "eighth_area" (defArgs s_eighth_area) (defBody s_eighth_area) (defScope s_eighth_area) .none kV26 dc26 pm26 an26 cd26 ct26), sl26⟩) (c26 : PySem.W.codeIn K cd26 "eighth_area" = true) (k26 : PySem.W.keepIn K (.ref f26) = true) (a27 : PySem.W.findIn K (.ref CFormat) "top" = some (some (.ref q27))) (b27 : PySem.W.specialIn K (.ref q27) "__get__" = some (some (.builtin "property.__get__"))) (d27 : PySem.W.takesIn K (.ref q27) = some true) (e27 : PySem.W.recIn K q27 "property" = some (.ref f27 :: rs27)) (l27 : K.lookup f27 = some ⟨oc27, od27, .func (PySem.W.fnOf "top" "Format.top" (defArgs s_Format_top) (defBody s_Format_top) (defScope s_Format_top) .none kV27 dc27 pm27 an27 cd27 ct27), sl27⟩) (c27 : PySem.W.codeIn K cd27 "Format.top" = true) (k27 : PySem.W.keepIn K (.ref f27) = true) (a28 : PySem.W.nsIn K mainGlobals "_predict_vector" = some (some (.ref f28))) (l28 : K.lookup f28 = some ⟨oc28, od28, .func (PySem.W.fnOf "_predict_vector" "_predict_vector" (defArgs s__predict_vector) (defBody s__predict_vector) (defScope s__predict_vector) .none kV28 dc28 pm28 an28 cd28 ct28), sl28⟩) (c28 : PySem.W.codeIn K cd28 "_predict_vector" = true) (k28 : PySem.W.keepIn K (.ref f28) = true) (a29 : PySem.W.nsIn K mainGlobals "_mixed" = some (some (.ref f29))) (l29 : K.lookup f29 = some ⟨oc29, od29, .func (PySem.W.fnOf "_mixed" "_mixed" (defArgs s__mixed) (defBody s__mixed) (defScope s__mixed) .none kV29 dc29 pm29 an29 cd29 ct29), sl29⟩) (c29 : PySem.W.codeIn K cd29 "_mixed" = true) (k29 : PySem.W.keepIn K (.ref f29) = true) (a30 : PySem.W.nsIn K mainGlobals "predict_motion" = some (some (.ref f30))) (l30 : K.lookup f30 = some ⟨oc30, od30, .func (PySem.W.fnOf "predict_motion" "predict_motion" (defArgs s_predict_motion) (defBody s_predict_motion) (defScope s_predict_motion) .none kV30 dc30 pm30 an30 cd30 ct30), sl30⟩) (c30 : PySem.W.codeIn K cd30 "predict_motion" = true) (k30 : PySem.W.keepIn K (.ref f30) = true) (a31 : PySem.W.nsIn K mainGlobals "law" = some (some (.ref f31))) (l31 : K.lookup f31 = some ⟨oc31, od31, .func (PySem.W.fnOf "law" "law" (defArgs s_law) (defBody s_law) (defScope s_law) .none kV31 dc31 pm31 an31 cd31 ct31), sl31⟩) (c31 : PySem.W.codeIn K cd31 "law" = true) (k31 : PySem.W.keepIn K (.ref f31) = true)
    (z0 : PySem.W.nsIn K mainGlobals "abs" = some none) (z1 : PySem.W.nsIn K mainGlobals "int" = some none) (z2 : PySem.W.nsIn K mainGlobals "min" = some none) (z3 : PySem.W.nsIn K mainGlobals "GREATEST_NUMBER" = some (some (.int 999 tk3))) (z4 : PySem.W.nsIn K mainGlobals "KINDS" = some (some (.ref TG_KINDS))) (y4 : K.lookup TG_KINDS = some ⟨.type "tuple", td4, .seq #[.str "I" tk4_0, .str "P" tk4_1, .str "B" tk4_2] tn4, tsl4⟩) (z5 : PySem.W.nsIn K mainGlobals "GREATEST_LEVEL" = some (some (.int 31 tk5))) (z6 : PySem.W.nsIn K mainGlobals "EVEN_WEIGHT" = some (some (.int 8 tk6))) (z7 : PySem.W.nsIn K mainGlobals "sorted" = some none) (z8 : PySem.W.nsIn K mainGlobals "set" = some none) (z9 : PySem.W.nsIn K mainGlobals "REF_COUNTS" = some (some (.ref TG_REF_COUNTS))) (y9 : K.lookup TG_REF_COUNTS = some ⟨.type "dict", none, .dict #[⟨th9_0, .str "I" tk9_0, .ref TG_REF_COUNTS_0⟩, ⟨th9_1, .str "P" tk9_1, .ref TG_REF_COUNTS_1⟩, ⟨th9_2, .str "B" tk9_2, .ref TG_REF_COUNTS_2⟩] tn9, #[]⟩) (u9_0 : th9_0 = PyData.keyHash w.params "I") (u9_1 : th9_1 = PyData.keyHash w.params "P") (u9_2 : th9_2 = PyData.keyHash w.params "B") (y9_2 : K.lookup TG_REF_COUNTS_2 = some ⟨.type "tuple", td9_2, .seq #[.int 2 tk9_2_0] tn9_2, tsl9_2⟩) (y9_1 : K.lookup TG_REF_COUNTS_1 = some ⟨.type "tuple", td9_1, .seq #[.int 1 tk9_1_0, .int 2 tk9_1_1] tn9_1, tsl9_1⟩) (y9_0 : K.lookup TG_REF_COUNTS_0 = some ⟨.type "tuple", td9_0, .seq #[.int 0 tk9_0_0] tn9_0, tsl9_0⟩) (z10 : PySem.W.nsIn K mainGlobals "len" = some none) (z11 : PySem.W.nsIn K mainGlobals "list" = some none) (z12 : PySem.W.nsIn K mainGlobals "range" = some none) (z13 : PySem.W.nsIn K mainGlobals "max" = some none) (z14 : PySem.W.nsIn K mainGlobals "sum" = some none) (z15 : PySem.W.nsIn K mainGlobals "zip" = some none) (z16 : PySem.W.nsIn K mainGlobals "WEIGHTS" = some (some (.ref TG_WEIGHTS))) (y16 : K.lookup TG_WEIGHTS = some ⟨.type "tuple", td16, .seq #[.ref TG_WEIGHTS_0, .ref TG_WEIGHTS_1, .ref TG_WEIGHTS_2, .ref TG_WEIGHTS_3] tn16, tsl16⟩) (y16_0 : K.lookup TG_WEIGHTS_0 = some ⟨.type "tuple", td16_0, .seq #[.int 0 tk16_0_0, .int 0 tk16_0_1, .int 64 tk16_0_2, .int 0 tk16_0_3, .int 0 tk16_0_4, .int 0 tk16_0_5] tn16_0, tsl16_0⟩) (y16_1 : K.lookup TG_WEIGHTS_1 = some ⟨.type "tuple", td16_1, .seq #[.int 1 tk16_1_0, .int (-5) tk16_1_1, .int 52 tk16_1_2, .int 20 tk16_1_3, .int (-5) tk16_1_4, .int 1 tk16_1_5] tn16_1, tsl16_1⟩) (y16_2 : K.lookup TG_WEIGHTS_2 = some ⟨.type "tuple", td16_2, .seq #[.int 2 tk16_2_0, .int (-10) tk16_2_1, .int 40 tk16_2_2, .int 40 tk16_2_3, .int (-10) tk16_2_4, .int 2 tk16_2_5] tn16_2, tsl16_2⟩) (y16_3 : K.lookup TG_WEIGHTS_3 = some ⟨.type "tuple", td16_3, .seq #[.int 1 tk16_3_0, .int (-5) tk16_3_1, .int 20 tk16_3_2, .int 52 tk16_3_3, .int (-5) tk16_3_4, .int 1 tk16_3_5] tn16_3, tsl16_3⟩) (z17 : PySem.W.nsIn K mainGlobals "WHOLE_WEIGHT" = some (some (.int 16 tk17))) (z18 : PySem.W.nsIn K mainGlobals "isinstance" = some none) (ytPictureHeader___init___store : K.lookup TD_PictureHeader___init___store = some ⟨.type "tuple", tddPictureHeader___init___store, .seq #[] tdnPictureHeader___init___store, tdsPictureHeader___init___store⟩) (ytPictureHeader___init___refs : K.lookup TD_PictureHeader___init___refs = some ⟨.type "tuple", tddPictureHeader___init___refs, .seq #[] tdnPictureHeader___init___refs, tdsPictureHeader___init___refs⟩) (ySettings0 : PySem.W.plainGet K CSettings Str.empty = true) (ySettings1 : PySem.W.hasDictIn K CSettings = true) (ySettings2 : PySem.W.plainOver K CSettings = true) (ySettings3 : PySem.W.findIn K (.ref CSettings) "__setattr__" = some (some (.builtin "object.__setattr__"))) (xSettings0 : PySem.W.findIn K (.ref CSettings) "fmt" = some none) (xSettings1 : PySem.W.findIn K (.ref CSettings) "slots" = some none) (xSettings2 : PySem.W.findIn K (.ref CSettings) "rows" = some none) (xSettings3 : PySem.W.findIn K (.ref CSettings) "deblock" = some none) (xSettings4 : PySem.W.findIn K (.ref CSettings) "offset" = some none) (xSettings5 : PySem.W.findIn K (.ref CSettings) "layers" = some none) (yPictureHeader0 : PySem.W.plainGet K CPictureHeader Str.empty = true) (yPictureHeader1 : PySem.W.hasDictIn K CPictureHeader = true) (yPictureHeader2 : PySem.W.plainOver K CPictureHeader = true) (yPictureHeader3 : PySem.W.findIn K (.ref CPictureHeader) "__setattr__" = some (some (.builtin "object.__setattr__"))) (xPictureHeader0 : PySem.W.findIn K (.ref CPictureHeader) "number" = some none) (xPictureHeader1 : PySem.W.findIn K (.ref CPictureHeader) "kind" = some none) (xPictureHeader2 : PySem.W.findIn K (.ref CPictureHeader) "level" = some none) (xPictureHeader3 : PySem.W.findIn K (.ref CPictureHeader) "store" = some none) (xPictureHeader4 : PySem.W.findIn K (.ref CPictureHeader) "refs" = some none) (xPictureHeader5 : PySem.W.findIn K (.ref CPictureHeader) "weight" = some none) (xPictureHeader6 : PySem.W.findIn K (.ref CPictureHeader) "layer" = some none) (xPictureHeader7 : PySem.W.findIn K (.ref CPictureHeader) "shown" = some none) (xPictureHeader8 : PySem.W.findIn K (.ref CPictureHeader) "edge" = some none) (yFormat0 : PySem.W.plainGet K CFormat Str.empty = true) (yFormat1 : PySem.W.hasDictIn K CFormat = true) (yFormat2 : PySem.W.plainOver K CFormat = true) (yFormat3 : PySem.W.findIn K (.ref CFormat) "__setattr__" = some (some (.builtin "object.__setattr__"))) (xFormat0 : PySem.W.findIn K (.ref CFormat) "width" = some none) (xFormat1 : PySem.W.findIn K (.ref CFormat) "height" = some none) (xFormat2 : PySem.W.findIn K (.ref CFormat) "depth" = some none) (xFormat3 : PySem.W.findIn K (.ref CFormat) "chroma" = some none) (exBadHeader : PySem.W.excIn K XBadHeader [.type "ValueError", .type "Exception", .type "BaseException", .type "object"] "ValueError.__new__" = true) (ekBadHeader : PySem.W.keepIn K (.ref XBadHeader) = true) (ebBadHeader : PySem.W.subIn K (.ref XBadHeader) (.type "BaseException") = some true) (etBadHeader : PySem.W.typeIn K (.ref XBadHeader) = some (.type "type")) (exBadFormat : PySem.W.excIn K XBadFormat [.type "ValueError", .type "Exception", .type "BaseException", .type "object"] "ValueError.__new__" = true) (ekBadFormat : PySem.W.keepIn K (.ref XBadFormat) = true) (ebBadFormat : PySem.W.subIn K (.ref XBadFormat) (.type "BaseException") = some true) (etBadFormat : PySem.W.typeIn K (.ref XBadFormat) = some (.type "type")) :
    ∃ fd : FuncData, (∀ (s : Shared) (v : Value), BindsTo s fd ⟨[v], []⟩ [("script", v)]) ∧ ∀ base : Heap, K.In base → base.Ns mainGlobals mg → FnG l.prog w K mg base CX0 6 fa fd ["script"] (spL K) := by
  have e := hfa.symm.trans (PySem.W.mg_of X G a31)
  cases e
  have T : Txt w K mg ⟨TD_PictureHeader___init___store, TD_PictureHeader___init___refs, CFormat, CSettings, CPictureHeader, fa, XBadFormat, fa, XBadHeader, TG_KINDS, TG_REF_COUNTS, TG_REF_COUNTS_0, TG_REF_COUNTS_1, TG_REF_COUNTS_2, TG_WEIGHTS, TG_WEIGHTS_0, TG_WEIGHTS_1, TG_WEIGHTS_2, TG_WEIGHTS_3, fa⟩ := ⟨PySem.W.mg_none_of X G z0, PySem.W.mg_none_of X G z1, PySem.W.mg_none_of X G z2, ⟨_, PySem.W.mg_of X G z3, ⟨_, rfl⟩⟩, ⟨_, PySem.W.mg_of X G z4, rfl⟩, fun H => .inr ⟨_, _, _, y4, rfl, rfl, (by show 3 ≤ sizeLine; decide), (.cons ⟨_, rfl⟩ (.cons ⟨_, rfl⟩ (.cons ⟨_, rfl⟩ .nil)))⟩, ⟨_, PySem.W.mg_of X G z5, ⟨_, rfl⟩⟩, ⟨_, PySem.W.mg_of X G z6, ⟨_, rfl⟩⟩, PySem.W.mg_none_of X G z7, PySem.W.mg_none_of X G z8, ⟨_, PySem.W.mg_of X G z9, rfl⟩, ⟨_, _, y9, (.cons u9_0 (.cons u9_1 (.cons u9_2 .nil)))⟩, fun z h => F2.hasK (P := fun (a : Addr) (xs : List Int) => ∀ H, SqT K H a (xs.map V.int)) (.cons ⟨rfl, fun H => .inr ⟨_, _, _, y9_0, rfl, rfl, (by show 1 ≤ sizeLine; decide), (.cons ⟨_, rfl⟩ .nil)⟩⟩ (.cons ⟨rfl, fun H => .inr ⟨_, _, _, y9_1, rfl, rfl, (by show 2 ≤ sizeLine; decide), (.cons ⟨_, rfl⟩ (.cons ⟨_, rfl⟩ .nil))⟩⟩ (.cons ⟨rfl, fun H => .inr ⟨_, _, _, y9_2, rfl, rfl, (by show 1 ≤ sizeLine; decide), (.cons ⟨_, rfl⟩ .nil)⟩⟩ .nil))) h, fun z h => F2.look (P := fun (a : Addr) (xs : List Int) => ∀ H, SqT K H a (xs.map V.int)) (.cons ⟨rfl, fun H => .inr ⟨_, _, _, y9_0, rfl, rfl, (by show 1 ≤ sizeLine; decide), (.cons ⟨_, rfl⟩ .nil)⟩⟩ (.cons ⟨rfl, fun H => .inr ⟨_, _, _, y9_1, rfl, rfl, (by show 2 ≤ sizeLine; decide), (.cons ⟨_, rfl⟩ (.cons ⟨_, rfl⟩ .nil))⟩⟩ (.cons ⟨rfl, fun H => .inr ⟨_, _, _, y9_2, rfl, rfl, (by show 1 ≤ sizeLine; decide), (.cons ⟨_, rfl⟩ .nil)⟩⟩ .nil))) h, PySem.W.mg_none_of X G z10, PySem.W.mg_none_of X G z11, PySem.W.mg_none_of X G z12, PySem.W.mg_none_of X G z13, PySem.W.mg_none_of X G z14, PySem.W.mg_none_of X G z15, ⟨_, PySem.W.mg_of X G z16, rfl⟩, fun H => .inr ⟨_, _, _, y16, rfl, rfl, (by show 4 ≤ sizeLine; decide), (.cons rfl (.cons rfl (.cons rfl (.cons rfl .nil))))⟩, (F2.at (P := fun (a : Addr) (xs : List Int) => ∀ H, SqT K H a (xs.map V.int)) (.cons (fun H => .inr ⟨_, _, _, y16_0, rfl, rfl, (by show 6 ≤ sizeLine; decide), (.cons ⟨_, rfl⟩ (.cons ⟨_, rfl⟩ (.cons ⟨_, rfl⟩ (.cons ⟨_, rfl⟩ (.cons ⟨_, rfl⟩ (.cons ⟨_, rfl⟩ .nil))))))⟩) (.cons (fun H => .inr ⟨_, _, _, y16_1, rfl, rfl, (by show 6 ≤ sizeLine; decide), (.cons ⟨_, rfl⟩ (.cons ⟨_, rfl⟩ (.cons ⟨_, rfl⟩ (.cons ⟨_, rfl⟩ (.cons ⟨_, rfl⟩ (.cons ⟨_, rfl⟩ .nil))))))⟩) (.cons (fun H => .inr ⟨_, _, _, y16_2, rfl, rfl, (by show 6 ≤ sizeLine; decide), (.cons ⟨_, rfl⟩ (.cons ⟨_, rfl⟩ (.cons ⟨_, rfl⟩ (.cons ⟨_, rfl⟩ (.cons ⟨_, rfl⟩ (.cons ⟨_, rfl⟩ .nil))))))⟩) (.cons (fun H => .inr ⟨_, _, _, y16_3, rfl, rfl, (by show 6 ≤ sizeLine; decide), (.cons ⟨_, rfl⟩ (.cons ⟨_, rfl⟩ (.cons ⟨_, rfl⟩ (.cons ⟨_, rfl⟩ (.cons ⟨_, rfl⟩ (.cons ⟨_, rfl⟩ .nil))))))⟩) .nil))))), ⟨_, PySem.W.mg_of X G z17, ⟨_, rfl⟩⟩, PySem.W.mg_none_of X G z18, fun H => .inr ⟨_, _, _, ytPictureHeader___init___store, rfl, rfl, (by show 0 ≤ sizeLine; decide), .nil⟩, fun H => .inr ⟨_, _, _, ytPictureHeader___init___refs, rfl, rfl, (by show 0 ≤ sizeLine; decide), .nil⟩, ⟨ySettings0, ySettings1, ySettings2, ySettings3⟩, xSettings0, xSettings1, xSettings2, xSettings3, xSettings4, xSettings5, ⟨yPictureHeader0, yPictureHeader1, yPictureHeader2, yPictureHeader3⟩, xPictureHeader0, xPictureHeader1, xPictureHeader2, xPictureHeader3, xPictureHeader4, xPictureHeader5, xPictureHeader6, xPictureHeader7, xPictureHeader8, ⟨yFormat0, yFormat1, yFormat2, yFormat3⟩, xFormat0, xFormat1, xFormat2, xFormat3, PySem.W.mg_of X G vBadHeader, exBadHeader, ekBadHeader, ebBadHeader, etBadHeader, PySem.W.mg_of X G vBadFormat, exBadFormat, ekBadFormat, ebBadFormat, etBadFormat⟩
  have F0 : FunD K "_law_draws" "_law_draws" (defArgs s__law_draws) (defBody s__law_draws) (defScope s__law_draws) [] [] f0 _ := ⟨⟨_, _, _, _, _, _, _, _, _, _, rfl, l0, c0, .inl ⟨rfl, rfl⟩, .inl rfl⟩, k0⟩
  have D_0 : DefX K mg "_law_draws" s__law_draws ["cell", "limits"] pats__law_draws := ⟨_, _, _, _, F0, PySem.W.mg_of X G a0, (all_consQ (Bnd.all fun us ws vs zs l1 l2 r rz => by
      obtain ⟨u0, u1, rfl⟩ := len2 (r.length.symm.trans l1)
      obtain rfl := len0 (rz.length.symm.trans l2)
      cases r with | cons r0 r =>
        cases r with | cons r1 r =>
          cases r
          cases rz
          exact ⟨[u0, u1], rfl, (.cons r0 (.cons r1 .nil))⟩) all_nilQ)⟩
  have F1 : FunD K "_law_between" "_law_between" (defArgs s__law_between) (defBody s__law_between) (defScope s__law_between) [] [] f1 _ := ⟨⟨_, _, _, _, _, _, _, _, _, _, rfl, l1, c1, .inl ⟨rfl, rfl⟩, .inl rfl⟩, k1⟩
  have D_1 : DefX K mg "_law_between" s__law_between ["first", "second", "low", "high"] pats__law_between := ⟨_, _, _, _, F1, PySem.W.mg_of X G a1, (all_consQ (Bnd.all fun us ws vs zs l1 l2 r rz => by
      obtain ⟨u0, u1, u2, u3, rfl⟩ := len4 (r.length.symm.trans l1)
      obtain rfl := len0 (rz.length.symm.trans l2)
      cases r with | cons r0 r =>
        cases r with | cons r1 r =>
          cases r with | cons r2 r =>
            cases r with | cons r3 r =>
              cases r
              cases rz
              exact ⟨[u0, u1, u2, u3], rfl, (.cons r0 (.cons r1 (.cons r2 (.cons r3 .nil))))⟩) all_nilQ)⟩
  have F2 : FunD K "_law_inter" "_law_inter" (defArgs s__law_inter) (defBody s__law_inter) (defScope s__law_inter) [] [] f2 _ := ⟨⟨_, _, _, _, _, _, _, _, _, _, rfl, l2, c2, .inl ⟨rfl, rfl⟩, .inl rfl⟩, k2⟩
  have D_2 : DefX K mg "_law_inter" s__law_inter ["cell"] pats__law_inter := ⟨_, _, _, _, F2, PySem.W.mg_of X G a2, (all_consQ (Bnd.all fun us ws vs zs l1 l2 r rz => by
      obtain ⟨u0, rfl⟩ := len1 (r.length.symm.trans l1)
      obtain rfl := len0 (rz.length.symm.trans l2)
      cases r with | cons r0 r =>
        cases r
        cases rz
        exact ⟨[u0], rfl, (.cons r0 .nil)⟩) all_nilQ)⟩
  have F3 : FunD K "_require" "_require" (defArgs s__require) (defBody s__require) (defScope s__require) [] [] f3 _ := ⟨⟨_, _, _, _, _, _, _, _, _, _, rfl, l3, c3, .inl ⟨rfl, rfl⟩, .inl rfl⟩, k3⟩
  have D_3 : DefX K mg "_require" s__require ["holds", "text"] pats__require := ⟨_, _, _, _, F3, PySem.W.mg_of X G a3, (all_consQ (Bnd.all fun us ws vs zs l1 l2 r rz => by
      obtain ⟨u0, u1, rfl⟩ := len2 (r.length.symm.trans l1)
      obtain rfl := len0 (rz.length.symm.trans l2)
      cases r with | cons r0 r =>
        cases r with | cons r1 r =>
          cases r
          cases rz
          exact ⟨[u0, u1], rfl, (.cons r0 (.cons r1 .nil))⟩) all_nilQ)⟩
  have F4 : FunD K "__init__" "Settings.__init__" (defArgs s_Settings___init__) (defBody s_Settings___init__) (defScope s_Settings___init__) [] [("slots", V.int 1), ("rows", V.int 1), ("deblock", V.bl false), ("offset", V.bl false), ("layers", V.int 1)] f4 _ := ⟨⟨_, _, _, _, _, _, _, _, _, _, rfl, l4, c4, .inl ⟨rfl, rfl⟩, (.inr ⟨_, rfl, (all_consQ ⟨_, kd4_0, ⟨_, rfl⟩⟩ (all_consQ ⟨_, kd4_1, ⟨_, rfl⟩⟩ (all_consQ ⟨_, kd4_2, rfl⟩ (all_consQ ⟨_, kd4_3, rfl⟩ (all_consQ ⟨_, kd4_4, ⟨_, rfl⟩⟩ all_nilQ)))))⟩)⟩, k4⟩
  have D_4 : InitX K mg CSettings "Settings" "Settings.__init__" s_Settings___init__ ["self", "fmt", "slots", "rows", "deblock", "offset", "layers"] pats_Settings___init__ := ⟨_, _, _, _, F4, ⟨d4, a4, b4, e4⟩, PySem.W.mg_of X G wSettings, (all_consQ (Exists.elim (FunD.kbinds0 F4 2 ["slots"] [("rows", V.int 1), ("deblock", V.bl false), ("offset", V.bl false), ("layers", V.int 1)] (fun {α} => gk_Settings___init___0 (α := α)) (by simp) (by simp) (fun r s q => gkrel_Settings___init___0 r s q) (fun D doc pm an cdv ct us mv ws h1 h2 h3 => by
        obtain ⟨u0, u1, rfl⟩ := len2 h1
        obtain ⟨m0, m1, m2, m3, rfl⟩ := len4 h2
        obtain ⟨w0, rfl⟩ := len1 h3
        exact ⟨_, _, _, _, _, _, rfl, rfl, ⟨_, _, _, _, _, _, rfl, rfl, ⟨_, _, _, _, _, _, rfl, rfl, ⟨_, _, _, _, _, _, rfl, rfl, rfl⟩⟩⟩⟩)) fun _ hb => Bnd.of_kbn hb) all_nilQ)⟩
  have F5 : FunD K "_check_numbers" "_check_numbers" (defArgs s__check_numbers) (defBody s__check_numbers) (defScope s__check_numbers) [] [] f5 _ := ⟨⟨_, _, _, _, _, _, _, _, _, _, rfl, l5, c5, .inl ⟨rfl, rfl⟩, .inl rfl⟩, k5⟩
  have D_5 : DefX K mg "_check_numbers" s__check_numbers ["settings", "header"] pats__check_numbers := ⟨_, _, _, _, F5, PySem.W.mg_of X G a5, (all_consQ (Bnd.all fun us ws vs zs l1 l2 r rz => by
      obtain ⟨u0, u1, rfl⟩ := len2 (r.length.symm.trans l1)
      obtain rfl := len0 (rz.length.symm.trans l2)
      cases r with | cons r0 r =>
        cases r with | cons r1 r =>
          cases r
          cases rz
          exact ⟨[u0, u1], rfl, (.cons r0 (.cons r1 .nil))⟩) all_nilQ)⟩
  have F6 : FunD K "_check_slots" "_check_slots" (defArgs s__check_slots) (defBody s__check_slots) (defScope s__check_slots) [] [] f6 _ := ⟨⟨_, _, _, _, _, _, _, _, _, _, rfl, l6, c6, .inl ⟨rfl, rfl⟩, .inl rfl⟩, k6⟩
  have D_6 : DefX K mg "_check_slots" s__check_slots ["settings", "header"] pats__check_slots := ⟨_, _, _, _, F6, PySem.W.mg_of X G a6, (all_consQ (Bnd.all fun us ws vs zs l1 l2 r rz => by
      obtain ⟨u0, u1, rfl⟩ := len2 (r.length.symm.trans l1)
      obtain rfl := len0 (rz.length.symm.trans l2)
      cases r with | cons r0 r =>
        cases r with | cons r1 r =>
          cases r
          cases rz
          exact ⟨[u0, u1], rfl, (.cons r0 (.cons r1 .nil))⟩) all_nilQ)⟩
  have F7 : FunD K "__init__" "PictureHeader.__init__" (defArgs s_PictureHeader___init__) (defBody s_PictureHeader___init__) (defScope s_PictureHeader___init__) [] [("kind", V.str "I"), ("level", V.int 0), ("store", V.ref TD_PictureHeader___init___store), ("refs", V.ref TD_PictureHeader___init___refs), ("weight", V.int 8), ("layer", V.int 0), ("shown", V.bl true), ("edge", V.int 0)] f7 _ := ⟨⟨_, _, _, _, _, _, _, _, _, _, rfl, l7, c7, .inl ⟨rfl, rfl⟩, (.inr ⟨_, rfl, (all_consQ ⟨_, kd7_0, ⟨_, rfl⟩⟩ (all_consQ ⟨_, kd7_1, ⟨_, rfl⟩⟩ (all_consQ ⟨_, kd7_2, rfl⟩ (all_consQ ⟨_, kd7_3, rfl⟩ (all_consQ ⟨_, kd7_4, ⟨_, rfl⟩⟩ (all_consQ ⟨_, kd7_5, ⟨_, rfl⟩⟩ (all_consQ ⟨_, kd7_6, rfl⟩ (all_consQ ⟨_, kd7_7, ⟨_, rfl⟩⟩ all_nilQ))))))))⟩)⟩, k7⟩
  have D_7 : InitX K mg CPictureHeader "PictureHeader" "PictureHeader.__init__" s_PictureHeader___init__ ["self", "settings", "number", "kind", "level", "store", "refs", "weight", "layer", "shown", "edge"] (pats_PictureHeader___init__ ⟨TD_PictureHeader___init___store, TD_PictureHeader___init___refs, CFormat, CSettings, CPictureHeader, fa, XBadFormat, fa, XBadHeader, TG_KINDS, TG_REF_COUNTS, TG_REF_COUNTS_0, TG_REF_COUNTS_1, TG_REF_COUNTS_2, TG_WEIGHTS, TG_WEIGHTS_0, TG_WEIGHTS_1, TG_WEIGHTS_2, TG_WEIGHTS_3, fa⟩) := ⟨_, _, _, _, F7, ⟨d7, a7, b7, e7⟩, PySem.W.mg_of X G wPictureHeader, (all_consQ (Exists.elim (FunD.kbinds0 F7 2 ["number", "kind", "refs", "weight"] [("level", V.int 0), ("store", V.ref TD_PictureHeader___init___store), ("layer", V.int 0), ("shown", V.bl true), ("edge", V.int 0)] (fun {α} => gk_PictureHeader___init___0 (α := α)) (by simp) (by simp) (fun r s q => gkrel_PictureHeader___init___0 r s q) (fun D doc pm an cdv ct us mv ws h1 h2 h3 => by
        obtain ⟨u0, u1, rfl⟩ := len2 h1
        obtain ⟨m0, m1, m2, m3, m4, rfl⟩ := len5 h2
        obtain ⟨w0, w1, w2, w3, rfl⟩ := len4 h3
        exact ⟨_, _, _, _, _, _, rfl, rfl, ⟨_, _, _, _, _, _, rfl, rfl, ⟨_, _, _, _, _, _, rfl, rfl, ⟨_, _, _, _, _, _, rfl, rfl, ⟨_, _, _, _, _, _, rfl, rfl, rfl⟩⟩⟩⟩⟩)) fun _ hb => Bnd.of_kbn hb) all_nilQ)⟩
  have F8 : FunD K "__init__" "Format.__init__" (defArgs s_Format___init__) (defBody s_Format___init__) (defScope s_Format___init__) [] [("depth", V.int 8), ("chroma", V.int 0)] f8 _ := ⟨⟨_, _, _, _, _, _, _, _, _, _, rfl, l8, c8, .inl ⟨rfl, rfl⟩, (.inr ⟨_, rfl, (all_consQ ⟨_, kd8_0, ⟨_, rfl⟩⟩ (all_consQ ⟨_, kd8_1, ⟨_, rfl⟩⟩ all_nilQ))⟩)⟩, k8⟩
  have D_8 : InitX K mg CFormat "Format" "Format.__init__" s_Format___init__ ["self", "width", "height", "depth", "chroma"] pats_Format___init__ := ⟨_, _, _, _, F8, ⟨d8, a8, b8, e8⟩, PySem.W.mg_of X G wFormat, (all_consQ (Bnd.all fun us ws vs zs l1 l2 r rz => by
      obtain ⟨u0, u1, u2, rfl⟩ := len3 (r.length.symm.trans l1)
      obtain ⟨w0, w1, rfl⟩ := len2 (rz.length.symm.trans l2)
      cases r with | cons r0 r =>
        cases r with | cons r1 r =>
          cases r with | cons r2 r =>
            cases r
            cases rz with | cons q0 rz =>
              cases rz with | cons q1 rz =>
                cases rz
                exact ⟨[u0, u1, u2, w0, w1], rfl, (.cons r0 (.cons r1 (.cons r2 (.cons q0 (.cons q1 .nil)))))⟩) all_nilQ)⟩
  have F9 : FunD K "_law_header" "_law_header" (defArgs s__law_header) (defBody s__law_header) (defScope s__law_header) [] [] f9 _ := ⟨⟨_, _, _, _, _, _, _, _, _, _, rfl, l9, c9, .inl ⟨rfl, rfl⟩, .inl rfl⟩, k9⟩
  have D_9 : DefX K mg "_law_header" s__law_header ["n", "kind", "refs", "weight"] pats__law_header := ⟨_, _, _, _, F9, PySem.W.mg_of X G a9, (all_consQ (Bnd.all fun us ws vs zs l1 l2 r rz => by
      obtain ⟨u0, u1, u2, u3, rfl⟩ := len4 (r.length.symm.trans l1)
      obtain rfl := len0 (rz.length.symm.trans l2)
      cases r with | cons r0 r =>
        cases r with | cons r1 r =>
          cases r with | cons r2 r =>
            cases r with | cons r3 r =>
              cases r
              cases rz
              exact ⟨[u0, u1, u2, u3], rfl, (.cons r0 (.cons r1 (.cons r2 (.cons r3 .nil))))⟩) all_nilQ)⟩
  have F10 : FunD K "_law_cell" "_law_cell" (defArgs s__law_cell) (defBody s__law_cell) (defScope s__law_cell) [] [] f10 _ := ⟨⟨_, _, _, _, _, _, _, _, _, _, rfl, l10, c10, .inl ⟨rfl, rfl⟩, .inl rfl⟩, k10⟩
  have D_10 : DefX K mg "_law_cell" s__law_cell ["script", "k"] pats__law_cell := ⟨_, _, _, _, F10, PySem.W.mg_of X G a10, (all_consQ (Bnd.all fun us ws vs zs l1 l2 r rz => by
      obtain ⟨u0, u1, rfl⟩ := len2 (r.length.symm.trans l1)
      obtain rfl := len0 (rz.length.symm.trans l2)
      cases r with | cons r0 r =>
        cases r with | cons r1 r =>
          cases r
          cases rz
          exact ⟨[u0, u1], rfl, (.cons r0 (.cons r1 .nil))⟩) all_nilQ)⟩
  have F11 : FunD K "_law_coded" "_law_coded" (defArgs s__law_coded) (defBody s__law_coded) (defScope s__law_coded) [] [] f11 _ := ⟨⟨_, _, _, _, _, _, _, _, _, _, rfl, l11, c11, .inl ⟨rfl, rfl⟩, .inl rfl⟩, k11⟩
  have D_11 : DefX K mg "_law_coded" s__law_coded ["n", "plane"] pats__law_coded := ⟨_, _, _, _, F11, PySem.W.mg_of X G a11, (all_consQ (Bnd.all fun us ws vs zs l1 l2 r rz => by
      obtain ⟨u0, u1, rfl⟩ := len2 (r.length.symm.trans l1)
      obtain rfl := len0 (rz.length.symm.trans l2)
      cases r with | cons r0 r =>
        cases r with | cons r1 r =>
          cases r
          cases rz
          exact ⟨[u0, u1], rfl, (.cons r0 (.cons r1 .nil))⟩) all_nilQ)⟩
  have F12 : FunD K "_law_plane" "_law_plane" (defArgs s__law_plane) (defBody s__law_plane) (defScope s__law_plane) [] [] f12 _ := ⟨⟨_, _, _, _, _, _, _, _, _, _, rfl, l12, c12, .inl ⟨rfl, rfl⟩, .inl rfl⟩, k12⟩
  have D_12 : DefX K mg "_law_plane" s__law_plane ["cell", "width", "height", "top"] pats__law_plane := ⟨_, _, _, _, F12, PySem.W.mg_of X G a12, (all_consQ (Bnd.all fun us ws vs zs l1 l2 r rz => by
      obtain ⟨u0, u1, u2, u3, rfl⟩ := len4 (r.length.symm.trans l1)
      obtain rfl := len0 (rz.length.symm.trans l2)
      cases r with | cons r0 r =>
        cases r with | cons r1 r =>
          cases r with | cons r2 r =>
            cases r with | cons r3 r =>
              cases r
              cases rz
              exact ⟨[u0, u1, u2, u3], rfl, (.cons r0 (.cons r1 (.cons r2 (.cons r3 .nil))))⟩) all_nilQ)⟩
  have F13 : FunD K "_law_reference" "_law_reference" (defArgs s__law_reference) (defBody s__law_reference) (defScope s__law_reference) [] [] f13 _ := ⟨⟨_, _, _, _, _, _, _, _, _, _, rfl, l13, c13, .inl ⟨rfl, rfl⟩, .inl rfl⟩, k13⟩
  have D_13 : DefX K mg "_law_reference" s__law_reference ["cell", "n"] pats__law_reference := ⟨_, _, _, _, F13, PySem.W.mg_of X G a13, (all_consQ (Bnd.all fun us ws vs zs l1 l2 r rz => by
      obtain ⟨u0, u1, rfl⟩ := len2 (r.length.symm.trans l1)
      obtain rfl := len0 (rz.length.symm.trans l2)
      cases r with | cons r0 r =>
        cases r with | cons r1 r =>
          cases r
          cases rz
          exact ⟨[u0, u1], rfl, (.cons r0 (.cons r1 .nil))⟩) all_nilQ)⟩
  have F14 : FunD K "_law_copy" "_law_copy" (defArgs s__law_copy) (defBody s__law_copy) (defScope s__law_copy) [] [] f14 _ := ⟨⟨_, _, _, _, _, _, _, _, _, _, rfl, l14, c14, .inl ⟨rfl, rfl⟩, .inl rfl⟩, k14⟩
  have D_14 : DefX K mg "_law_copy" s__law_copy ["planes"] pats__law_copy := ⟨_, _, _, _, F14, PySem.W.mg_of X G a14, (all_consQ (Bnd.all fun us ws vs zs l1 l2 r rz => by
      obtain ⟨u0, rfl⟩ := len1 (r.length.symm.trans l1)
      obtain rfl := len0 (rz.length.symm.trans l2)
      cases r with | cons r0 r =>
        cases r
        cases rz
        exact ⟨[u0], rfl, (.cons r0 .nil)⟩) all_nilQ)⟩
  have F15 : FunD K "_law_component" "_law_component" (defArgs s__law_component) (defBody s__law_component) (defScope s__law_component) [] [] f15 _ := ⟨⟨_, _, _, _, _, _, _, _, _, _, rfl, l15, c15, .inl ⟨rfl, rfl⟩, .inl rfl⟩, k15⟩
  have D_15 : DefX K mg "_law_component" s__law_component ["first", "second"] pats__law_component := ⟨_, _, _, _, F15, PySem.W.mg_of X G a15, (all_consQ (Bnd.all fun us ws vs zs l1 l2 r rz => by
      obtain ⟨u0, u1, rfl⟩ := len2 (r.length.symm.trans l1)
      obtain rfl := len0 (rz.length.symm.trans l2)
      cases r with | cons r0 r =>
        cases r with | cons r1 r =>
          cases r
          cases rz
          exact ⟨[u0, u1], rfl, (.cons r0 (.cons r1 .nil))⟩) all_nilQ)⟩
  have F16 : FunD K "_law_motion" "_law_motion" (defArgs s__law_motion) (defBody s__law_motion) (defScope s__law_motion) [] [] f16 _ := ⟨⟨_, _, _, _, _, _, _, _, _, _, rfl, l16, c16, .inl ⟨rfl, rfl⟩, .inl rfl⟩, k16⟩
  have D_16 : DefX K mg "_law_motion" s__law_motion ["cell", "kind", "refs"] pats__law_motion := ⟨_, _, _, _, F16, PySem.W.mg_of X G a16, (all_consQ (Bnd.all fun us ws vs zs l1 l2 r rz => by
      obtain ⟨u0, u1, u2, rfl⟩ := len3 (r.length.symm.trans l1)
      obtain rfl := len0 (rz.length.symm.trans l2)
      cases r with | cons r0 r =>
        cases r with | cons r1 r =>
          cases r with | cons r2 r =>
            cases r
            cases rz
            exact ⟨[u0, u1, u2], rfl, (.cons r0 (.cons r1 (.cons r2 .nil)))⟩) all_nilQ)⟩
  have F17 : FunD K "_law_at" "_law_at" (defArgs s__law_at) (defBody s__law_at) (defScope s__law_at) [] [] f17 _ := ⟨⟨_, _, _, _, _, _, _, _, _, _, rfl, l17, c17, .inl ⟨rfl, rfl⟩, .inl rfl⟩, k17⟩
  have D_17 : DefX K mg "_law_at" s__law_at ["plane", "x", "y"] pats__law_at := ⟨_, _, _, _, F17, PySem.W.mg_of X G a17, (all_consQ (Bnd.all fun us ws vs zs l1 l2 r rz => by
      obtain ⟨u0, u1, u2, rfl⟩ := len3 (r.length.symm.trans l1)
      obtain rfl := len0 (rz.length.symm.trans l2)
      cases r with | cons r0 r =>
        cases r with | cons r1 r =>
          cases r with | cons r2 r =>
            cases r
            cases rz
            exact ⟨[u0, u1, u2], rfl, (.cons r0 (.cons r1 (.cons r2 .nil)))⟩) all_nilQ)⟩
  have F18 : FunD K "_law_eighth" "_law_eighth" (defArgs s__law_eighth) (defBody s__law_eighth) (defScope s__law_eighth) [] [] f18 _ := ⟨⟨_, _, _, _, _, _, _, _, _, _, rfl, l18, c18, .inl ⟨rfl, rfl⟩, .inl rfl⟩, k18⟩
  have D_18 : DefX K mg "_law_eighth" s__law_eighth ["plane", "x", "y"] pats__law_eighth := ⟨_, _, _, _, F18, PySem.W.mg_of X G a18, (all_consQ (Bnd.all fun us ws vs zs l1 l2 r rz => by
      obtain ⟨u0, u1, u2, rfl⟩ := len3 (r.length.symm.trans l1)
      obtain rfl := len0 (rz.length.symm.trans l2)
      cases r with | cons r0 r =>
        cases r with | cons r1 r =>
          cases r with | cons r2 r =>
            cases r
            cases rz
            exact ⟨[u0, u1, u2], rfl, (.cons r0 (.cons r1 (.cons r2 .nil)))⟩) all_nilQ)⟩
  have F19 : FunD K "_law_quarter" "_law_quarter" (defArgs s__law_quarter) (defBody s__law_quarter) (defScope s__law_quarter) [] [] f19 _ := ⟨⟨_, _, _, _, _, _, _, _, _, _, rfl, l19, c19, .inl ⟨rfl, rfl⟩, .inl rfl⟩, k19⟩
  have D_19 : DefX K mg "_law_quarter" s__law_quarter ["plane", "x", "y", "top"] pats__law_quarter := ⟨_, _, _, _, F19, PySem.W.mg_of X G a19, (all_consQ (Bnd.all fun us ws vs zs l1 l2 r rz => by
      obtain ⟨u0, u1, u2, u3, rfl⟩ := len4 (r.length.symm.trans l1)
      obtain rfl := len0 (rz.length.symm.trans l2)
      cases r with | cons r0 r =>
        cases r with | cons r1 r =>
          cases r with | cons r2 r =>
            cases r with | cons r3 r =>
              cases r
              cases rz
              exact ⟨[u0, u1, u2, u3], rfl, (.cons r0 (.cons r1 (.cons r2 (.cons r3 .nil))))⟩) all_nilQ)⟩
  have F20 : FunD K "_law_rows" "_law_rows" (defArgs s__law_rows) (defBody s__law_rows) (defScope s__law_rows) [] [] f20 _ := ⟨⟨_, _, _, _, _, _, _, _, _, _, rfl, l20, c20, .inl ⟨rfl, rfl⟩, .inl rfl⟩, k20⟩
  have D_20 : DefX K mg "_law_rows" s__law_rows ["planes", "plane", "vector", "n", "place"] pats__law_rows := ⟨_, _, _, _, F20, PySem.W.mg_of X G a20, (all_consQ (Bnd.all fun us ws vs zs l1 l2 r rz => by
      obtain ⟨u0, u1, u2, u3, u4, rfl⟩ := len5 (r.length.symm.trans l1)
      obtain rfl := len0 (rz.length.symm.trans l2)
      cases r with | cons r0 r =>
        cases r with | cons r1 r =>
          cases r with | cons r2 r =>
            cases r with | cons r3 r =>
              cases r with | cons r4 r =>
                cases r
                cases rz
                exact ⟨[u0, u1, u2, u3, u4], rfl, (.cons r0 (.cons r1 (.cons r2 (.cons r3 (.cons r4 .nil)))))⟩) all_nilQ)⟩
  have F21 : FunD K "_law_predict" "_law_predict" (defArgs s__law_predict) (defBody s__law_predict) (defScope s__law_predict) [] [] f21 _ := ⟨⟨_, _, _, _, _, _, _, _, _, _, rfl, l21, c21, .inl ⟨rfl, rfl⟩, .inl rfl⟩, k21⟩
  have D_21 : DefX K mg "_law_predict" s__law_predict ["n", "kind", "weight", "motion", "references", "plane", "place"] pats__law_predict := ⟨_, _, _, _, F21, PySem.W.mg_of X G a21, (all_consQ (Bnd.all fun us ws vs zs l1 l2 r rz => by
      obtain ⟨u0, u1, u2, u3, u4, u5, u6, rfl⟩ := len7 (r.length.symm.trans l1)
      obtain rfl := len0 (rz.length.symm.trans l2)
      cases r with | cons r0 r =>
        cases r with | cons r1 r =>
          cases r with | cons r2 r =>
            cases r with | cons r3 r =>
              cases r with | cons r4 r =>
                cases r with | cons r5 r =>
                  cases r with | cons r6 r =>
                    cases r
                    cases rz
                    exact ⟨[u0, u1, u2, u3, u4, u5, u6], rfl, (.cons r0 (.cons r1 (.cons r2 (.cons r3 (.cons r4 (.cons r5 (.cons r6 .nil)))))))⟩) all_nilQ)⟩
  have F22 : FunD K "clip" "clip" (defArgs s_clip) (defBody s_clip) (defScope s_clip) [] [] f22 _ := ⟨⟨_, _, _, _, _, _, _, _, _, _, rfl, l22, c22, .inl ⟨rfl, rfl⟩, .inl rfl⟩, k22⟩
  have D_22 : DefX K mg "clip" s_clip ["value", "low", "high"] pats_clip := ⟨_, _, _, _, F22, PySem.W.mg_of X G a22, (all_consQ (Bnd.all fun us ws vs zs l1 l2 r rz => by
      obtain ⟨u0, u1, u2, rfl⟩ := len3 (r.length.symm.trans l1)
      obtain rfl := len0 (rz.length.symm.trans l2)
      cases r with | cons r0 r =>
        cases r with | cons r1 r =>
          cases r with | cons r2 r =>
            cases r
            cases rz
            exact ⟨[u0, u1, u2], rfl, (.cons r0 (.cons r1 (.cons r2 .nil)))⟩) all_nilQ)⟩
  have F23 : FunD K "_samples" "_samples" (defArgs s__samples) (defBody s__samples) (defScope s__samples) [] [] f23 _ := ⟨⟨_, _, _, _, _, _, _, _, _, _, rfl, l23, c23, .inl ⟨rfl, rfl⟩, .inl rfl⟩, k23⟩
  have D_23 : DefX K mg "_samples" s__samples ["plane", "x", "y", "width", "height"] pats__samples := ⟨_, _, _, _, F23, PySem.W.mg_of X G a23, (all_consQ (Bnd.all fun us ws vs zs l1 l2 r rz => by
      obtain ⟨u0, u1, u2, u3, u4, rfl⟩ := len5 (r.length.symm.trans l1)
      obtain rfl := len0 (rz.length.symm.trans l2)
      cases r with | cons r0 r =>
        cases r with | cons r1 r =>
          cases r with | cons r2 r =>
            cases r with | cons r3 r =>
              cases r with | cons r4 r =>
                cases r
                cases rz
                exact ⟨[u0, u1, u2, u3, u4], rfl, (.cons r0 (.cons r1 (.cons r2 (.cons r3 (.cons r4 .nil)))))⟩) all_nilQ)⟩
  have F24 : FunD K "_weighted" "_weighted" (defArgs s__weighted) (defBody s__weighted) (defScope s__weighted) [] [] f24 _ := ⟨⟨_, _, _, _, _, _, _, _, _, _, rfl, l24, c24, .inl ⟨rfl, rfl⟩, .inl rfl⟩, k24⟩
  have D_24 : DefX K mg "_weighted" s__weighted ["weights", "lines"] pats__weighted := ⟨_, _, _, _, F24, PySem.W.mg_of X G a24, (all_consQ (Bnd.all fun us ws vs zs l1 l2 r rz => by
      obtain ⟨u0, u1, rfl⟩ := len2 (r.length.symm.trans l1)
      obtain rfl := len0 (rz.length.symm.trans l2)
      cases r with | cons r0 r =>
        cases r with | cons r1 r =>
          cases r
          cases rz
          exact ⟨[u0, u1], rfl, (.cons r0 (.cons r1 .nil))⟩) all_nilQ)⟩
  have F25 : FunD K "quarter_area" "quarter_area" (defArgs s_quarter_area) (defBody s_quarter_area) (defScope s_quarter_area) [] [] f25 _ := ⟨⟨_, _, _, _, _, _, _, _, _, _, rfl, l25, c25, .inl ⟨rfl, rfl⟩, .inl rfl⟩, k25⟩
  have D_25 : DefX K mg "quarter_area" s_quarter_area ["plane", "x", "y", "width", "height", "top"] pats_quarter_area := ⟨_, _, _, _, F25, PySem.W.mg_of X G a25, (all_consQ (Bnd.all fun us ws vs zs l1 l2 r rz => by
      obtain ⟨u0, u1, u2, u3, u4, rfl⟩ := len5 (r.length.symm.trans l1)
      obtain ⟨w0, rfl⟩ := len1 (rz.length.symm.trans l2)
      cases r with | cons r0 r =>
        cases r with | cons r1 r =>
          cases r with | cons r2 r =>
            cases r with | cons r3 r =>
              cases r with | cons r4 r =>
                cases r
                cases rz with | cons q0 rz =>
                  cases rz
                  exact ⟨[u0, u1, u2, u3, u4, w0], rfl, (.cons r0 (.cons r1 (.cons r2 (.cons r3 (.cons r4 (.cons q0 .nil))))))⟩) all_nilQ)⟩
  have F26 : FunD K "eighth_area" "eighth_area" (defArgs s_eighth_area) (defBody s_eighth_area) (defScope s_eighth_area) [] [] f26 _ := ⟨⟨_, _, _, _, _, _, _, _, _, _, rfl, l26, c26, .inl ⟨rfl, rfl⟩, .inl rfl⟩, k26⟩
  have D_26 : DefX K mg "eighth_area" s_eighth_area ["plane", "x", "y", "width", "height", "top"] pats_eighth_area := ⟨_, _, _, _, F26, PySem.W.mg_of X G a26, (all_consQ (Bnd.all fun us ws vs zs l1 l2 r rz => by
      obtain ⟨u0, u1, u2, u3, u4, rfl⟩ := len5 (r.length.symm.trans l1)
      obtain ⟨w0, rfl⟩ := len1 (rz.length.symm.trans l2)
      cases r with | cons r0 r =>
        cases r with | cons r1 r =>
          cases r with | cons r2 r =>
            cases r with | cons r3 r =>
              cases r with | cons r4 r =>
                cases r
                cases rz with | cons q0 rz =>
                  cases rz
                  exact ⟨[u0, u1, u2, u3, u4, w0], rfl, (.cons r0 (.cons r1 (.cons r2 (.cons r3 (.cons r4 (.cons q0 .nil))))))⟩) all_nilQ)⟩
  have F27 : FunD K "top" "Format.top" (defArgs s_Format_top) (defBody s_Format_top) (defScope s_Format_top) [] [] f27 _ := ⟨⟨_, _, _, _, _, _, _, _, _, _, rfl, l27, c27, .inl ⟨rfl, rfl⟩, .inl rfl⟩, k27⟩
  have D_27 : PropX K CFormat "Format.top" "top" s_Format_top ["self"] pats_Format_top := ⟨_, _, _, _, _, F27, ⟨a27, b27, d27, _, e27⟩, FunD.bindsN F27 (fun _ _ _ _ _ _ us h => by obtain ⟨u0, rfl⟩ := len1 h; rfl)⟩
  have F28 : FunD K "_predict_vector" "_predict_vector" (defArgs s__predict_vector) (defBody s__predict_vector) (defScope s__predict_vector) [] [] f28 _ := ⟨⟨_, _, _, _, _, _, _, _, _, _, rfl, l28, c28, .inl ⟨rfl, rfl⟩, .inl rfl⟩, k28⟩
  have D_28 : DefX K mg "_predict_vector" s__predict_vector ["fmt", "vector", "reference", "plane", "x", "y", "width", "height"] pats__predict_vector := ⟨_, _, _, _, F28, PySem.W.mg_of X G a28, (all_consQ (Bnd.all fun us ws vs zs l1 l2 r rz => by
      obtain ⟨u0, u1, u2, u3, u4, u5, u6, u7, rfl⟩ := len8 (r.length.symm.trans l1)
      obtain rfl := len0 (rz.length.symm.trans l2)
      cases r with | cons r0 r =>
        cases r with | cons r1 r =>
          cases r with | cons r2 r =>
            cases r with | cons r3 r =>
              cases r with | cons r4 r =>
                cases r with | cons r5 r =>
                  cases r with | cons r6 r =>
                    cases r with | cons r7 r =>
                      cases r
                      cases rz
                      exact ⟨[u0, u1, u2, u3, u4, u5, u6, u7], rfl, (.cons r0 (.cons r1 (.cons r2 (.cons r3 (.cons r4 (.cons r5 (.cons r6 (.cons r7 .nil))))))))⟩) all_nilQ)⟩
  have F29 : FunD K "_mixed" "_mixed" (defArgs s__mixed) (defBody s__mixed) (defScope s__mixed) [] [] f29 _ := ⟨⟨_, _, _, _, _, _, _, _, _, _, rfl, l29, c29, .inl ⟨rfl, rfl⟩, .inl rfl⟩, k29⟩
  have D_29 : DefX K mg "_mixed" s__mixed ["one", "other", "weight"] pats__mixed := ⟨_, _, _, _, F29, PySem.W.mg_of X G a29, (all_consQ (Bnd.all fun us ws vs zs l1 l2 r rz => by
      obtain ⟨u0, u1, u2, rfl⟩ := len3 (r.length.symm.trans l1)
      obtain rfl := len0 (rz.length.symm.trans l2)
      cases r with | cons r0 r =>
        cases r with | cons r1 r =>
          cases r with | cons r2 r =>
            cases r
            cases rz
            exact ⟨[u0, u1, u2], rfl, (.cons r0 (.cons r1 (.cons r2 .nil)))⟩) all_nilQ)⟩
  have F30 : FunD K "predict_motion" "predict_motion" (defArgs s_predict_motion) (defBody s_predict_motion) (defScope s_predict_motion) [] [] f30 _ := ⟨⟨_, _, _, _, _, _, _, _, _, _, rfl, l30, c30, .inl ⟨rfl, rfl⟩, .inl rfl⟩, k30⟩
  have D_30 : DefX K mg "predict_motion" s_predict_motion ["fmt", "header", "motion", "references", "plane", "x", "y", "width", "height"] pats_predict_motion := ⟨_, _, _, _, F30, PySem.W.mg_of X G a30, (all_consQ (Bnd.all fun us ws vs zs l1 l2 r rz => by
      obtain ⟨u0, u1, u2, u3, u4, u5, u6, u7, u8, rfl⟩ := len9 (r.length.symm.trans l1)
      obtain rfl := len0 (rz.length.symm.trans l2)
      cases r with | cons r0 r =>
        cases r with | cons r1 r =>
          cases r with | cons r2 r =>
            cases r with | cons r3 r =>
              cases r with | cons r4 r =>
                cases r with | cons r5 r =>
                  cases r with | cons r6 r =>
                    cases r with | cons r7 r =>
                      cases r with | cons r8 r =>
                        cases r
                        cases rz
                        exact ⟨[u0, u1, u2, u3, u4, u5, u6, u7, u8], rfl, (.cons r0 (.cons r1 (.cons r2 (.cons r3 (.cons r4 (.cons r5 (.cons r6 (.cons r7 (.cons r8 .nil)))))))))⟩) all_nilQ)⟩
  have F31 : FunD K "law" "law" (defArgs s_law) (defBody s_law) (defScope s_law) [] [] _ _ := ⟨⟨_, _, _, _, _, _, _, _, _, _, rfl, l31, c31, .inl ⟨rfl, rfl⟩, .inl rfl⟩, k31⟩
  have R__law_draws : ∀ base : Heap, CalX l.prog w K mg base 1 "_law_draws" (sp__law_draws K ⟨TD_PictureHeader___init___store, TD_PictureHeader___init___refs, CFormat, CSettings, CPictureHeader, fa, XBadFormat, fa, XBadHeader, TG_KINDS, TG_REF_COUNTS, TG_REF_COUNTS_0, TG_REF_COUNTS_1, TG_REF_COUNTS_2, TG_WEIGHTS, TG_WEIGHTS_0, TG_WEIGHTS_1, TG_WEIGHTS_2, TG_WEIGHTS_3, fa⟩) pats__law_draws := fun base => ok__law_draws D_0 T 
  have R__law_between : ∀ base : Heap, CalX l.prog w K mg base 1 "_law_between" (sp__law_between K ⟨TD_PictureHeader___init___store, TD_PictureHeader___init___refs, CFormat, CSettings, CPictureHeader, fa, XBadFormat, fa, XBadHeader, TG_KINDS, TG_REF_COUNTS, TG_REF_COUNTS_0, TG_REF_COUNTS_1, TG_REF_COUNTS_2, TG_WEIGHTS, TG_WEIGHTS_0, TG_WEIGHTS_1, TG_WEIGHTS_2, TG_WEIGHTS_3, fa⟩) pats__law_between := fun base => ok__law_between D_1 T 
  have R__law_inter : ∀ base : Heap, CalX l.prog w K mg base 2 "_law_inter" (sp__law_inter K ⟨TD_PictureHeader___init___store, TD_PictureHeader___init___refs, CFormat, CSettings, CPictureHeader, fa, XBadFormat, fa, XBadHeader, TG_KINDS, TG_REF_COUNTS, TG_REF_COUNTS_0, TG_REF_COUNTS_1, TG_REF_COUNTS_2, TG_WEIGHTS, TG_WEIGHTS_0, TG_WEIGHTS_1, TG_WEIGHTS_2, TG_WEIGHTS_3, fa⟩) pats__law_inter := fun base => ok__law_inter D_2 T (R__law_draws base) (R__law_between base)
  have R__require : ∀ base : Heap, CalX l.prog w K mg base 1 "_require" (sp__require K ⟨TD_PictureHeader___init___store, TD_PictureHeader___init___refs, CFormat, CSettings, CPictureHeader, fa, XBadFormat, fa, XBadHeader, TG_KINDS, TG_REF_COUNTS, TG_REF_COUNTS_0, TG_REF_COUNTS_1, TG_REF_COUNTS_2, TG_WEIGHTS, TG_WEIGHTS_0, TG_WEIGHTS_1, TG_WEIGHTS_2, TG_WEIGHTS_3, fa⟩) pats__require := fun base => ok__require D_3 T 
  have R_Settings___init__ : ∀ base : Heap, MakX l.prog w K mg base 2 "Settings" (⟨TD_PictureHeader___init___store, TD_PictureHeader___init___refs, CFormat, CSettings, CPictureHeader, fa, XBadFormat, fa, XBadHeader, TG_KINDS, TG_REF_COUNTS, TG_REF_COUNTS_0, TG_REF_COUNTS_1, TG_REF_COUNTS_2, TG_WEIGHTS, TG_WEIGHTS_0, TG_WEIGHTS_1, TG_WEIGHTS_2, TG_WEIGHTS_3, fa⟩ : Ads).c_Settings (sp_Settings___init__ K ⟨TD_PictureHeader___init___store, TD_PictureHeader___init___refs, CFormat, CSettings, CPictureHeader, fa, XBadFormat, fa, XBadHeader, TG_KINDS, TG_REF_COUNTS, TG_REF_COUNTS_0, TG_REF_COUNTS_1, TG_REF_COUNTS_2, TG_WEIGHTS, TG_WEIGHTS_0, TG_WEIGHTS_1, TG_WEIGHTS_2, TG_WEIGHTS_3, fa⟩) pats_Settings___init__ := fun base => ok_Settings___init__ D_4 T (R__require base)
  have R__check_numbers : ∀ base : Heap, CalX l.prog w K mg base 2 "_check_numbers" (sp__check_numbers K ⟨TD_PictureHeader___init___store, TD_PictureHeader___init___refs, CFormat, CSettings, CPictureHeader, fa, XBadFormat, fa, XBadHeader, TG_KINDS, TG_REF_COUNTS, TG_REF_COUNTS_0, TG_REF_COUNTS_1, TG_REF_COUNTS_2, TG_WEIGHTS, TG_WEIGHTS_0, TG_WEIGHTS_1, TG_WEIGHTS_2, TG_WEIGHTS_3, fa⟩) pats__check_numbers := fun base => ok__check_numbers D_5 T (R__require base)
  have R__check_slots : ∀ base : Heap, CalX l.prog w K mg base 2 "_check_slots" (sp__check_slots K ⟨TD_PictureHeader___init___store, TD_PictureHeader___init___refs, CFormat, CSettings, CPictureHeader, fa, XBadFormat, fa, XBadHeader, TG_KINDS, TG_REF_COUNTS, TG_REF_COUNTS_0, TG_REF_COUNTS_1, TG_REF_COUNTS_2, TG_WEIGHTS, TG_WEIGHTS_0, TG_WEIGHTS_1, TG_WEIGHTS_2, TG_WEIGHTS_3, fa⟩) pats__check_slots := fun base => ok__check_slots D_6 T (R__require base)
  have R_PictureHeader___init__ : ∀ base : Heap, MakX l.prog w K mg base 3 "PictureHeader" (⟨TD_PictureHeader___init___store, TD_PictureHeader___init___refs, CFormat, CSettings, CPictureHeader, fa, XBadFormat, fa, XBadHeader, TG_KINDS, TG_REF_COUNTS, TG_REF_COUNTS_0, TG_REF_COUNTS_1, TG_REF_COUNTS_2, TG_WEIGHTS, TG_WEIGHTS_0, TG_WEIGHTS_1, TG_WEIGHTS_2, TG_WEIGHTS_3, fa⟩ : Ads).c_PictureHeader (sp_PictureHeader___init__ K ⟨TD_PictureHeader___init___store, TD_PictureHeader___init___refs, CFormat, CSettings, CPictureHeader, fa, XBadFormat, fa, XBadHeader, TG_KINDS, TG_REF_COUNTS, TG_REF_COUNTS_0, TG_REF_COUNTS_1, TG_REF_COUNTS_2, TG_WEIGHTS, TG_WEIGHTS_0, TG_WEIGHTS_1, TG_WEIGHTS_2, TG_WEIGHTS_3, fa⟩) (pats_PictureHeader___init__ ⟨TD_PictureHeader___init___store, TD_PictureHeader___init___refs, CFormat, CSettings, CPictureHeader, fa, XBadFormat, fa, XBadHeader, TG_KINDS, TG_REF_COUNTS, TG_REF_COUNTS_0, TG_REF_COUNTS_1, TG_REF_COUNTS_2, TG_WEIGHTS, TG_WEIGHTS_0, TG_WEIGHTS_1, TG_WEIGHTS_2, TG_WEIGHTS_3, fa⟩) := fun base => ok_PictureHeader___init__ D_7 T (R__check_numbers base) (R__check_slots base)
  have R_Format___init__ : ∀ base : Heap, MakX l.prog w K mg base 1 "Format" (⟨TD_PictureHeader___init___store, TD_PictureHeader___init___refs, CFormat, CSettings, CPictureHeader, fa, XBadFormat, fa, XBadHeader, TG_KINDS, TG_REF_COUNTS, TG_REF_COUNTS_0, TG_REF_COUNTS_1, TG_REF_COUNTS_2, TG_WEIGHTS, TG_WEIGHTS_0, TG_WEIGHTS_1, TG_WEIGHTS_2, TG_WEIGHTS_3, fa⟩ : Ads).c_Format (sp_Format___init__ K ⟨TD_PictureHeader___init___store, TD_PictureHeader___init___refs, CFormat, CSettings, CPictureHeader, fa, XBadFormat, fa, XBadHeader, TG_KINDS, TG_REF_COUNTS, TG_REF_COUNTS_0, TG_REF_COUNTS_1, TG_REF_COUNTS_2, TG_WEIGHTS, TG_WEIGHTS_0, TG_WEIGHTS_1, TG_WEIGHTS_2, TG_WEIGHTS_3, fa⟩) pats_Format___init__ := fun base => ok_Format___init__ D_8 T 
  have R__law_header : ∀ base : Heap, CalX l.prog w K mg base 5 "_law_header" (sp__law_header K ⟨TD_PictureHeader___init___store, TD_PictureHeader___init___refs, CFormat, CSettings, CPictureHeader, fa, XBadFormat, fa, XBadHeader, TG_KINDS, TG_REF_COUNTS, TG_REF_COUNTS_0, TG_REF_COUNTS_1, TG_REF_COUNTS_2, TG_WEIGHTS, TG_WEIGHTS_0, TG_WEIGHTS_1, TG_WEIGHTS_2, TG_WEIGHTS_3, fa⟩) pats__law_header := fun base => ok__law_header D_9 T (R_Settings___init__ base) (R_Format___init__ base) (R_PictureHeader___init__ base)
  have R__law_cell : ∀ base : Heap, CalX l.prog w K mg base 1 "_law_cell" (sp__law_cell K ⟨TD_PictureHeader___init___store, TD_PictureHeader___init___refs, CFormat, CSettings, CPictureHeader, fa, XBadFormat, fa, XBadHeader, TG_KINDS, TG_REF_COUNTS, TG_REF_COUNTS_0, TG_REF_COUNTS_1, TG_REF_COUNTS_2, TG_WEIGHTS, TG_WEIGHTS_0, TG_WEIGHTS_1, TG_WEIGHTS_2, TG_WEIGHTS_3, fa⟩) pats__law_cell := fun base => ok__law_cell D_10 T 
  have R__law_coded : ∀ base : Heap, CalX l.prog w K mg base 1 "_law_coded" (sp__law_coded K ⟨TD_PictureHeader___init___store, TD_PictureHeader___init___refs, CFormat, CSettings, CPictureHeader, fa, XBadFormat, fa, XBadHeader, TG_KINDS, TG_REF_COUNTS, TG_REF_COUNTS_0, TG_REF_COUNTS_1, TG_REF_COUNTS_2, TG_WEIGHTS, TG_WEIGHTS_0, TG_WEIGHTS_1, TG_WEIGHTS_2, TG_WEIGHTS_3, fa⟩) pats__law_coded := fun base => ok__law_coded D_11 T 
  have R__law_plane : ∀ base : Heap, CalX l.prog w K mg base 2 "_law_plane" (sp__law_plane K ⟨TD_PictureHeader___init___store, TD_PictureHeader___init___refs, CFormat, CSettings, CPictureHeader, fa, XBadFormat, fa, XBadHeader, TG_KINDS, TG_REF_COUNTS, TG_REF_COUNTS_0, TG_REF_COUNTS_1, TG_REF_COUNTS_2, TG_WEIGHTS, TG_WEIGHTS_0, TG_WEIGHTS_1, TG_WEIGHTS_2, TG_WEIGHTS_3, fa⟩) pats__law_plane := fun base => ok__law_plane D_12 T (R__law_draws base)
  have R__law_reference : ∀ base : Heap, CalX l.prog w K mg base 3 "_law_reference" (sp__law_reference K ⟨TD_PictureHeader___init___store, TD_PictureHeader___init___refs, CFormat, CSettings, CPictureHeader, fa, XBadFormat, fa, XBadHeader, TG_KINDS, TG_REF_COUNTS, TG_REF_COUNTS_0, TG_REF_COUNTS_1, TG_REF_COUNTS_2, TG_WEIGHTS, TG_WEIGHTS_0, TG_WEIGHTS_1, TG_WEIGHTS_2, TG_WEIGHTS_3, fa⟩) pats__law_reference := fun base => ok__law_reference D_13 T (R__law_coded base) (R__law_plane base)
  have R__law_copy : ∀ base : Heap, CalX l.prog w K mg base 1 "_law_copy" (sp__law_copy K ⟨TD_PictureHeader___init___store, TD_PictureHeader___init___refs, CFormat, CSettings, CPictureHeader, fa, XBadFormat, fa, XBadHeader, TG_KINDS, TG_REF_COUNTS, TG_REF_COUNTS_0, TG_REF_COUNTS_1, TG_REF_COUNTS_2, TG_WEIGHTS, TG_WEIGHTS_0, TG_WEIGHTS_1, TG_WEIGHTS_2, TG_WEIGHTS_3, fa⟩) pats__law_copy := fun base => ok__law_copy D_14 T 
  have R__law_component : ∀ base : Heap, CalX l.prog w K mg base 1 "_law_component" (sp__law_component K ⟨TD_PictureHeader___init___store, TD_PictureHeader___init___refs, CFormat, CSettings, CPictureHeader, fa, XBadFormat, fa, XBadHeader, TG_KINDS, TG_REF_COUNTS, TG_REF_COUNTS_0, TG_REF_COUNTS_1, TG_REF_COUNTS_2, TG_WEIGHTS, TG_WEIGHTS_0, TG_WEIGHTS_1, TG_WEIGHTS_2, TG_WEIGHTS_3, fa⟩) pats__law_component := fun base => ok__law_component D_15 T 
  have R__law_motion : ∀ base : Heap, CalX l.prog w K mg base 2 "_law_motion" (sp__law_motion K ⟨TD_PictureHeader___init___store, TD_PictureHeader___init___refs, CFormat, CSettings, CPictureHeader, fa, XBadFormat, fa, XBadHeader, TG_KINDS, TG_REF_COUNTS, TG_REF_COUNTS_0, TG_REF_COUNTS_1, TG_REF_COUNTS_2, TG_WEIGHTS, TG_WEIGHTS_0, TG_WEIGHTS_1, TG_WEIGHTS_2, TG_WEIGHTS_3, fa⟩) pats__law_motion := fun base => ok__law_motion D_16 T (R__law_draws base) (R__law_component base)
  have R__law_at : ∀ base : Heap, CalX l.prog w K mg base 1 "_law_at" (sp__law_at K ⟨TD_PictureHeader___init___store, TD_PictureHeader___init___refs, CFormat, CSettings, CPictureHeader, fa, XBadFormat, fa, XBadHeader, TG_KINDS, TG_REF_COUNTS, TG_REF_COUNTS_0, TG_REF_COUNTS_1, TG_REF_COUNTS_2, TG_WEIGHTS, TG_WEIGHTS_0, TG_WEIGHTS_1, TG_WEIGHTS_2, TG_WEIGHTS_3, fa⟩) pats__law_at := fun base => ok__law_at D_17 T 
  have R__law_eighth : ∀ base : Heap, CalX l.prog w K mg base 2 "_law_eighth" (sp__law_eighth K ⟨TD_PictureHeader___init___store, TD_PictureHeader___init___refs, CFormat, CSettings, CPictureHeader, fa, XBadFormat, fa, XBadHeader, TG_KINDS, TG_REF_COUNTS, TG_REF_COUNTS_0, TG_REF_COUNTS_1, TG_REF_COUNTS_2, TG_WEIGHTS, TG_WEIGHTS_0, TG_WEIGHTS_1, TG_WEIGHTS_2, TG_WEIGHTS_3, fa⟩) pats__law_eighth := fun base => ok__law_eighth D_18 T (R__law_at base)
  have R__law_quarter : ∀ base : Heap, CalX l.prog w K mg base 2 "_law_quarter" (sp__law_quarter K ⟨TD_PictureHeader___init___store, TD_PictureHeader___init___refs, CFormat, CSettings, CPictureHeader, fa, XBadFormat, fa, XBadHeader, TG_KINDS, TG_REF_COUNTS, TG_REF_COUNTS_0, TG_REF_COUNTS_1, TG_REF_COUNTS_2, TG_WEIGHTS, TG_WEIGHTS_0, TG_WEIGHTS_1, TG_WEIGHTS_2, TG_WEIGHTS_3, fa⟩) pats__law_quarter := fun base => ok__law_quarter D_19 T (R__law_at base)
  have R__law_rows : ∀ base : Heap, CalX l.prog w K mg base 3 "_law_rows" (sp__law_rows K ⟨TD_PictureHeader___init___store, TD_PictureHeader___init___refs, CFormat, CSettings, CPictureHeader, fa, XBadFormat, fa, XBadHeader, TG_KINDS, TG_REF_COUNTS, TG_REF_COUNTS_0, TG_REF_COUNTS_1, TG_REF_COUNTS_2, TG_WEIGHTS, TG_WEIGHTS_0, TG_WEIGHTS_1, TG_WEIGHTS_2, TG_WEIGHTS_3, fa⟩) pats__law_rows := fun base => ok__law_rows D_20 T (R__law_eighth base) (R__law_quarter base)
  have R__law_predict : ∀ base : Heap, CalX l.prog w K mg base 4 "_law_predict" (sp__law_predict K ⟨TD_PictureHeader___init___store, TD_PictureHeader___init___refs, CFormat, CSettings, CPictureHeader, fa, XBadFormat, fa, XBadHeader, TG_KINDS, TG_REF_COUNTS, TG_REF_COUNTS_0, TG_REF_COUNTS_1, TG_REF_COUNTS_2, TG_WEIGHTS, TG_WEIGHTS_0, TG_WEIGHTS_1, TG_WEIGHTS_2, TG_WEIGHTS_3, fa⟩) pats__law_predict := fun base => ok__law_predict D_21 T (R__law_rows base)
  have R_clip : ∀ base : Heap, CalX l.prog w K mg base 1 "clip" (sp_clip K ⟨TD_PictureHeader___init___store, TD_PictureHeader___init___refs, CFormat, CSettings, CPictureHeader, fa, XBadFormat, fa, XBadHeader, TG_KINDS, TG_REF_COUNTS, TG_REF_COUNTS_0, TG_REF_COUNTS_1, TG_REF_COUNTS_2, TG_WEIGHTS, TG_WEIGHTS_0, TG_WEIGHTS_1, TG_WEIGHTS_2, TG_WEIGHTS_3, fa⟩) pats_clip := fun base => ok_clip D_22 T 
  have R__samples : ∀ base : Heap, CalX l.prog w K mg base 2 "_samples" (sp__samples K ⟨TD_PictureHeader___init___store, TD_PictureHeader___init___refs, CFormat, CSettings, CPictureHeader, fa, XBadFormat, fa, XBadHeader, TG_KINDS, TG_REF_COUNTS, TG_REF_COUNTS_0, TG_REF_COUNTS_1, TG_REF_COUNTS_2, TG_WEIGHTS, TG_WEIGHTS_0, TG_WEIGHTS_1, TG_WEIGHTS_2, TG_WEIGHTS_3, fa⟩) pats__samples := fun base => ok__samples D_23 T (R_clip base)
  have R__weighted : ∀ base : Heap, CalX l.prog w K mg base 1 "_weighted" (sp__weighted K ⟨TD_PictureHeader___init___store, TD_PictureHeader___init___refs, CFormat, CSettings, CPictureHeader, fa, XBadFormat, fa, XBadHeader, TG_KINDS, TG_REF_COUNTS, TG_REF_COUNTS_0, TG_REF_COUNTS_1, TG_REF_COUNTS_2, TG_WEIGHTS, TG_WEIGHTS_0, TG_WEIGHTS_1, TG_WEIGHTS_2, TG_WEIGHTS_3, fa⟩) pats__weighted := fun base => ok__weighted D_24 T 
  have R_quarter_area : ∀ base : Heap, CalX l.prog w K mg base 3 "quarter_area" (sp_quarter_area K ⟨TD_PictureHeader___init___store, TD_PictureHeader___init___refs, CFormat, CSettings, CPictureHeader, fa, XBadFormat, fa, XBadHeader, TG_KINDS, TG_REF_COUNTS, TG_REF_COUNTS_0, TG_REF_COUNTS_1, TG_REF_COUNTS_2, TG_WEIGHTS, TG_WEIGHTS_0, TG_WEIGHTS_1, TG_WEIGHTS_2, TG_WEIGHTS_3, fa⟩) pats_quarter_area := fun base => ok_quarter_area D_25 T (R__samples base) (R__weighted base) (R_clip base)
  have R_eighth_area : ∀ base : Heap, CalX l.prog w K mg base 3 "eighth_area" (sp_eighth_area K ⟨TD_PictureHeader___init___store, TD_PictureHeader___init___refs, CFormat, CSettings, CPictureHeader, fa, XBadFormat, fa, XBadHeader, TG_KINDS, TG_REF_COUNTS, TG_REF_COUNTS_0, TG_REF_COUNTS_1, TG_REF_COUNTS_2, TG_WEIGHTS, TG_WEIGHTS_0, TG_WEIGHTS_1, TG_WEIGHTS_2, TG_WEIGHTS_3, fa⟩) pats_eighth_area := fun base => ok_eighth_area D_26 T (R__samples base)
  have R_Format_top : ∀ base : Heap, PropY l.prog w K mg base 1 (⟨TD_PictureHeader___init___store, TD_PictureHeader___init___refs, CFormat, CSettings, CPictureHeader, fa, XBadFormat, fa, XBadHeader, TG_KINDS, TG_REF_COUNTS, TG_REF_COUNTS_0, TG_REF_COUNTS_1, TG_REF_COUNTS_2, TG_WEIGHTS, TG_WEIGHTS_0, TG_WEIGHTS_1, TG_WEIGHTS_2, TG_WEIGHTS_3, fa⟩ : Ads).c_Format "top" (sp_Format_top K ⟨TD_PictureHeader___init___store, TD_PictureHeader___init___refs, CFormat, CSettings, CPictureHeader, fa, XBadFormat, fa, XBadHeader, TG_KINDS, TG_REF_COUNTS, TG_REF_COUNTS_0, TG_REF_COUNTS_1, TG_REF_COUNTS_2, TG_WEIGHTS, TG_WEIGHTS_0, TG_WEIGHTS_1, TG_WEIGHTS_2, TG_WEIGHTS_3, fa⟩) pats_Format_top := fun base => ok_Format_top D_27 T 
  have R__predict_vector : ∀ base : Heap, CalX l.prog w K mg base 4 "_predict_vector" (sp__predict_vector K ⟨TD_PictureHeader___init___store, TD_PictureHeader___init___refs, CFormat, CSettings, CPictureHeader, fa, XBadFormat, fa, XBadHeader, TG_KINDS, TG_REF_COUNTS, TG_REF_COUNTS_0, TG_REF_COUNTS_1, TG_REF_COUNTS_2, TG_WEIGHTS, TG_WEIGHTS_0, TG_WEIGHTS_1, TG_WEIGHTS_2, TG_WEIGHTS_3, fa⟩) pats__predict_vector := fun base => ok__predict_vector D_28 T (R_Format_top base) (R_eighth_area base) (R_quarter_area base)
  have R__mixed : ∀ base : Heap, CalX l.prog w K mg base 1 "_mixed" (sp__mixed K ⟨TD_PictureHeader___init___store, TD_PictureHeader___init___refs, CFormat, CSettings, CPictureHeader, fa, XBadFormat, fa, XBadHeader, TG_KINDS, TG_REF_COUNTS, TG_REF_COUNTS_0, TG_REF_COUNTS_1, TG_REF_COUNTS_2, TG_WEIGHTS, TG_WEIGHTS_0, TG_WEIGHTS_1, TG_WEIGHTS_2, TG_WEIGHTS_3, fa⟩) pats__mixed := fun base => ok__mixed D_29 T 
  have R_predict_motion : ∀ base : Heap, CalX l.prog w K mg base 5 "predict_motion" (sp_predict_motion K ⟨TD_PictureHeader___init___store, TD_PictureHeader___init___refs, CFormat, CSettings, CPictureHeader, fa, XBadFormat, fa, XBadHeader, TG_KINDS, TG_REF_COUNTS, TG_REF_COUNTS_0, TG_REF_COUNTS_1, TG_REF_COUNTS_2, TG_WEIGHTS, TG_WEIGHTS_0, TG_WEIGHTS_1, TG_WEIGHTS_2, TG_WEIGHTS_3, fa⟩) pats_predict_motion := fun base => ok_predict_motion D_30 T (R__predict_vector base) (R__mixed base)

  refine ⟨PySem.W.fnOf "law" "law" (defArgs s_law) (defBody s_law) (defScope s_law) .none kV31 dc31 pm31 an31 cd31 ct31, fun s v => .of_eq rfl, fun base _ _ => (ok_law (AD := ⟨TD_PictureHeader___init___store, TD_PictureHeader___init___refs, CFormat, CSettings, CPictureHeader, fa, XBadFormat, fa, XBadHeader, TG_KINDS, TG_REF_COUNTS, TG_REF_COUNTS_0, TG_REF_COUNTS_1, TG_REF_COUNTS_2, TG_WEIGHTS, TG_WEIGHTS_0, TG_WEIGHTS_1, TG_WEIGHTS_2, TG_WEIGHTS_3, fa⟩) F31 T (R__law_inter base) (R__law_cell base) (R__law_header base) (R_Format___init__ base) (R__law_reference base) (R__law_copy base) (R__law_draws base) (R__law_coded base) (R__law_motion base) (R__law_predict base) (R_predict_motion base)).imp ?_⟩
  rintro vs H Q E ⟨a, xs, rfl, hs, hl, q⟩
  exact ⟨a, xs, rfl, hs, by rw [law_true xs hl]; exact cW_mk rfl, q⟩
end Vx
open PySem PySem.W PyProof.Rows
set_option maxRecDepth 100000 in
set_option maxHeartbeats 0 in
theorem PySem.Challenge.cw_thaumatrope_k37_areas_predicted_by_motio_holds : PySem.Challenge.rw_thaumatrope_k37_areas_predicted_by_motio.Holds := by
  w_on; o_law; k_head; (case hw => w_witness2)
  k_fill
  refine Vx.walkG (l := PySem.Challenge.rw_thaumatrope_k37_areas_predicted_by_motio) (n := 63) (k := 6) (x := "script") rfl (by decide) rfl ⟨rfl, by decide, by decide⟩ (fun w h Y => PySem.W.kIn_of Y) ?F
  case F =>
    intro w mg fa h KX G hmg
    refine' Vx.all_mk KX G hmg ?wFormat ?wSettings ?wPictureHeader ?vBadFormat ?vBadHeader ?a0 ?l0 ?c0 ?k0 ?a1 ?l1 ?c1 ?k1 ?a2 ?l2 ?c2 ?k2 ?a3 ?l3 ?c3 ?k3 ?a4 ?b4 ?d4 ?e4 ?l4 ?c4 ?k4 ?kd4_0 ?kd4_1 ?kd4_2 ?kd4_3 ?kd4_4 ?a5 ?l5 ?c5 ?k5 ?a6 ?l6 ?c6 ?k6 ?a7 ?b7 ?d7 ?e7 ?l7 ?c7 ?k7 ?kd7_0 ?kd7_1 ?kd7_2 ?kd7_3 ?kd7_4 ?kd7_5 ?kd7_6 ?kd7_7 ?a8 ?b8 ?d8 ?e8 ?l8 ?c8 ?k8 ?kd8_0 ?kd8_1 ?a9 ?l9 ?c9 ?k9 ?a10 ?l10 ?c10 ?k10 ?a11 ?l11 ?c11 ?k11 ?a12 ?l12 ?c12 ?k12 ?a13 ?l13 ?c13 ?k13 ?a14 ?l14 ?c14 ?k14 ?a15 ?l15 ?c15 ?k15 ?a16 ?l16 ?c16 ?k16 ?a17 ?l17 ?c17 ?k17 ?a18 ?l18 ?c18 ?k18 ?a19 ?l19 ?c19 ?k19 ?a20 ?l20 ?c20 ?k20 ?a21 ?l21 ?c21 ?k21 ?a22 ?l22 ?c22 ?k22 ?a23 ?l23 ?c23 ?k23 ?a24 ?l24 ?c24 ?k24 ?a25 ?l25 ?c25 ?k25 ?a26 ?l26 ?c26 ?k26 ?a27 ?b27 ?d27 ?e27 ?l27 ?c27 ?k27 ?a28 ?l28 ?c28 ?k28 ?a29 ?l29 ?c29 ?k29 ?a30 ?l30 ?c30 ?k30 ?a31 ?l31 ?c31 ?k31 ?z0 ?z1 ?z2 ?z3 ?z4 ?y4 ?z5 ?z6 ?z7 ?z8 ?z9 ?y9 ?u9_0 ?u9_1 ?u9_2 ?y9_2 ?y9_1 ?y9_0 ?z10 ?z11 ?z12 ?z13 ?z14 ?z15 ?z16 ?y16 ?y16_0 ?y16_1 ?y16_2 ?y16_3 ?z17 ?z18 ?ytPictureHeader___init___store ?ytPictureHeader___init___refs ?ySettings0 ?ySettings1 ?ySettings2 ?ySettings3 ?xSettings0 ?xSettings1 ?xSettings2 ?xSettings3 ?xSettings4 ?xSettings5 ?yPictureHeader0 ?yPictureHeader1 ?yPictureHeader2 ?yPictureHeader3 ?xPictureHeader0 ?xPictureHeader1 ?xPictureHeader2 ?xPictureHeader3 ?xPictureHeader4 ?xPictureHeader5 ?xPictureHeader6 ?xPictureHeader7 ?xPictureHeader8 ?yFormat0 ?yFormat1 ?yFormat2 ?yFormat3 ?xFormat0 ?xFormat1 ?xFormat2 ?xFormat3 ?exBadHeader ?ekBadHeader ?ebBadHeader ?etBadHeader ?exBadFormat ?ekBadFormat ?ebBadFormat ?etBadFormat
    (case wFormat => k_is)
    (case wSettings => k_is)
    (case wPictureHeader => k_is)
    (case vBadFormat => k_is)
    (case vBadHeader => k_is)
    (case a0 => k_is)
    (case l0 => k_is)
    (case c0 => k_is)
    (case k0 => k_is)
    (case a1 => k_is)
    (case l1 => k_is)
    (case c1 => k_is)
    (case k1 => k_is)
    (case a2 => k_is)
    (case l2 => k_is)
    (case c2 => k_is)
    (case k2 => k_is)
    (case a3 => k_is)
    (case l3 => k_is)
    (case c3 => k_is)
    (case k3 => k_is)
    (case a4 => k_is)
    (case b4 => k_is)
    (case d4 => k_is)
    (case e4 => k_is)
    (case l4 => k_is)
    (case c4 => k_is)
    (case k4 => k_is)
    (case kd4_0 => k_is)
    (case kd4_1 => k_is)
    (case kd4_2 => k_is)
    (case kd4_3 => k_is)
    (case kd4_4 => k_is)
    (case a5 => k_is)
    (case l5 => k_is)
    (case c5 => k_is)
    (case k5 => k_is)
    (case a6 => k_is)
    (case l6 => k_is)
    (case c6 => k_is)
    (case k6 => k_is)
    (case a7 => k_is)
    (case b7 => k_is)
    (case d7 => k_is)
    (case e7 => k_is)
    (case l7 => k_is)
    (case c7 => k_is)
    (case k7 => k_is)
    (case kd7_0 => k_is)
    (case kd7_1 => k_is)
    (case kd7_2 => k_is)
    (case kd7_3 => k_is)
    (case kd7_4 => k_is)
    (case kd7_5 => k_is)
    (case kd7_6 => k_is)
    (case kd7_7 => k_is)
    (case a8 => k_is)
    (case b8 => k_is)
    (case d8 => k_is)
    (case e8 => k_is)
    (case l8 => k_is)
    (case c8 => k_is)
    (case k8 => k_is)
    (case kd8_0 => k_is)
    (case kd8_1 => k_is)
    (case a9 => k_is)
    (case l9 => k_is)
    (case c9 => k_is)
    (case k9 => k_is)
    (case a10 => k_is)
    (case l10 => k_is)
    (case c10 => k_is)
    (case k10 => k_is)
    (case a11 => k_is)
    (case l11 => k_is)
    (case c11 => k_is)
    (case k11 => k_is)
    (case a12 => k_is)
    (case l12 => k_is)
    (case c12 => k_is)
    (case k12 => k_is)
    (case a13 => k_is)
    (case l13 => k_is)
    (case c13 => k_is)
    (case k13 => k_is)
    (case a14 => k_is)
    (case l14 => k_is)
    (case c14 => k_is)
    (case k14 => k_is)
    (case a15 => k_is)
    (case l15 => k_is)
    (case c15 => k_is)
    (case k15 => k_is)
    (case a16 => k_is)
    (case l16 => k_is)
    (case c16 => k_is)
    (case k16 => k_is)
    (case a17 => k_is)
    (case l17 => k_is)
    (case c17 => k_is)
    (case k17 => k_is)
    (case a18 => k_is)
    (case l18 => k_is)
    (case c18 => k_is)
    (case k18 => k_is)
    (case a19 => k_is)
    (case l19 => k_is)
    (case c19 => k_is)
    (case k19 => k_is)
    (case a20 => k_is)
    (case l20 => k_is)
    (case c20 => k_is)
    (case k20 => k_is)
    (case a21 => k_is)
    (case l21 => k_is)
    (case c21 => k_is)
    (case k21 => k_is)
    (case a22 => k_is)
    (case l22 => k_is)
    (case c22 => k_is)
    (case k22 => k_is)
    (case a23 => k_is)
    (case l23 => k_is)
    (case c23 => k_is)
    (case k23 => k_is)
    (case a24 => k_is)
    (case l24 => k_is)
    (case c24 => k_is)
    (case k24 => k_is)
    (case a25 => k_is)
    (case l25 => k_is)
    (case c25 => k_is)
    (case k25 => k_is)
    (case a26 => k_is)
    (case l26 => k_is)
    (case c26 => k_is)
    (case k26 => k_is)
    (case a27 => k_is)
    (case b27 => k_is)
    (case d27 => k_is)
    (case e27 => k_is)
    (case l27 => k_is)
    (case c27 => k_is)
    (case k27 => k_is)
    (case a28 => k_is)
    (case l28 => k_is)
    (case c28 => k_is)
    (case k28 => k_is)
    (case a29 => k_is)
    (case l29 => k_is)
    (case c29 => k_is)
    (case k29 => k_is)
    (case a30 => k_is)
    (case l30 => k_is)
    (case c30 => k_is)
    (case k30 => k_is)
    (case a31 => k_is)
    (case l31 => k_is)
    (case c31 => k_is)
    (case k31 => k_is)
    (case z0 => k_is)
    (case z1 => k_is)
    (case z2 => k_is)
    (case z3 => k_is)
    (case z4 => k_is)
    (case y4 => k_is)
    (case z5 => k_is)
    (case z6 => k_is)
    (case z7 => k_is)
    (case z8 => k_is)
    (case z9 => k_is)
    (case y9 => k_is)
    (case u9_0 => rfl)
    (case u9_1 => rfl)
    (case u9_2 => rfl)
    (case y9_2 => k_is)
    (case y9_1 => k_is)
    (case y9_0 => k_is)
    (case z10 => k_is)
    (case z11 => k_is)
    (case z12 => k_is)
    (case z13 => k_is)
    (case z14 => k_is)
    (case z15 => k_is)
    (case z16 => k_is)
    (case y16 => k_is)
    (case y16_0 => k_is)
    (case y16_1 => k_is)
    (case y16_2 => k_is)
    (case y16_3 => k_is)
    (case z17 => k_is)
    (case z18 => k_is)
    (case ytPictureHeader___init___store => k_is)
    (case ytPictureHeader___init___refs => k_is)
    (case ySettings0 => k_is)
    (case ySettings1 => k_is)
    (case ySettings2 => k_is)
    (case ySettings3 => k_is)
    (case xSettings0 => k_is)
    (case xSettings1 => k_is)
    (case xSettings2 => k_is)
    (case xSettings3 => k_is)
    (case xSettings4 => k_is)
    (case xSettings5 => k_is)
    (case yPictureHeader0 => k_is)
    (case yPictureHeader1 => k_is)
    (case yPictureHeader2 => k_is)
    (case yPictureHeader3 => k_is)
    (case xPictureHeader0 => k_is)
    (case xPictureHeader1 => k_is)
    (case xPictureHeader2 => k_is)
    (case xPictureHeader3 => k_is)
    (case xPictureHeader4 => k_is)
    (case xPictureHeader5 => k_is)
    (case xPictureHeader6 => k_is)
    (case xPictureHeader7 => k_is)
    (case xPictureHeader8 => k_is)
    (case yFormat0 => k_is)
    (case yFormat1 => k_is)
    (case yFormat2 => k_is)
    (case yFormat3 => k_is)
    (case xFormat0 => k_is)
    (case xFormat1 => k_is)
    (case xFormat2 => k_is)
    (case xFormat3 => k_is)
    (case exBadHeader => k_exc)
    (case ekBadHeader => k_is)
    (case ebBadHeader => k_is)
    (case etBadHeader => k_is)
    (case exBadFormat => k_exc)
    (case ekBadFormat => k_is)
    (case ebBadFormat => k_is)
    (case etBadFormat => k_is)
