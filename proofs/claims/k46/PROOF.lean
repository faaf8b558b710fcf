import PyProof.Rows.All
import Wide.All
import OpenK.AllK
import Wide.FinOn
import HandS.ForMost
import HandS.Codes
import HandS.Steps
import HandS.IsInst
import HandS.Property
import HandS.Wide
import HandS.WideBits
import HandS.Exc
import HandS.Defaults
import HandS.ExcOwn
import HandS.TryOnly
import HandS.WordsExc
import HandS.ExcIs
import HandS.MakeKwOnly
import HandS.RaiseMore
import HandS.Style
import HandS.Zip
import HandS.Iter
import HandS.Walk
import PySem.Challenge.RW_thaumatrope_k46_levels_in_scan_order
set_option Elab.async false
set_option linter.all false
set_option maxRecDepth 100000
set_option maxHeartbeats 8000000
namespace Vx
open PySem PySem.Spec PyProof.Rows L2

/-! ### heaps -/
def SameX (m : Addr) (H H' : Hp) : Prop := ∀ b o, H b = some o → b ≠ m → H' b = some o
theorem gen_new {H H' : Hp} {p : Addr} {o : HO} (n : H p = none) (h : upd H p o = H') : Same H H' ∧ H' p = some o := by
  subst h
  exact ⟨fun b u e => by rw [upd_ne (ne_of_none e n)]; exact e, upd_same⟩
theorem gen_mut {H H' : Hp} {m : Addr} {o : HO} (h : upd H m o = H') : SameX m H H' ∧ H' m = some o := by
  subst h
  exact ⟨fun b u e n => by rw [upd_ne n]; exact e, upd_same⟩
theorem same_mut {H0 H H' : Hp} {m : Addr} (B : Same H0 H) (x : SameX m H H') (f : H0 m = none) : Same H0 H' :=
  fun b o e => x b o (B b o e) (ne_of_none e f)
theorem map_get {xs : List Int} {i : Nat} {x : V} (h : (xs.map V.int)[i]? = some x) : ∃ o, xs[i]? = some o ∧ x = .int o := by
  rw [List.getElem?_map] at h
  cases e : xs[i]? with
  | none => rw [e] at h; cases h
  | some z => rw [e] at h; exact ⟨z, rfl, (Option.some.inj h).symm⟩
theorem get_len {α : Type} {xs : List α} {i : Nat} {x : α} (h : xs[i]? = some x) : i < xs.length := (List.getElem?_eq_some_iff.mp h).1
theorem eq_int {Q : VK} {H : Hp} {a b : Int} (h : Q (.int a) H) (e : a = b) : Q (.int b) H := e ▸ h
theorem eq_bl {Q : VK} {H : Hp} {a b : Bool} (h : Q (.bl a) H) (e : a = b) : Q (.bl b) H := e ▸ h
theorem small {n : Nat} (h : n ≤ 1000000) : n < sizeLine := Nat.lt_of_le_of_lt h (by decide)
theorem smallE {n : Nat} (h : n ≤ 1000000) : n ≤ sizeLine := Nat.le_of_lt (small h)
theorem snoc_int {xs : List Int} {y : Int} {H : Hp} {p : Addr} (h : H p = some (.lst (xs.map V.int ++ [V.int y]))) : H p = some (.lst ((xs ++ [y]).map V.int)) := by
  rw [List.map_append]; exact h
theorem cat_int {xs ys : List Int} {H : Hp} {p : Addr} (h : H p = some (.lst (xs.map V.int ++ ys.map V.int))) : H p = some (.lst ((xs ++ ys).map V.int)) := by
  rw [List.map_append]; exact h
theorem cast_lst {xs ys : List Int} {H : Hp} {p : Addr} (h : H p = some (.lst (xs.map V.int))) (e : xs = ys) : H p = some (.lst (ys.map V.int)) := e ▸ h

/-! ### tests -/
theorem dT {p : Prop} [Decidable p] (h : decide p = true) : p := of_decide_eq_true h
theorem dF {p : Prop} [Decidable p] (h : ¬ decide p = true) : ¬ p := fun x => h (decide_eq_true x)
theorem iteD {p A B : Prop} [Decidable p] (h1 : p → A) (h2 : ¬ p → B) : if decide p = true then A else B := by
  by_cases h : p
  · rw [if_pos (decide_eq_true h)]; exact h1 h
  · rw [if_neg (fun x => h (of_decide_eq_true x))]; exact h2 h
theorem iteN {p A B : Prop} [Decidable p] (h1 : ¬ p → A) (h2 : p → B) : if (!decide p) = true then A else B := by
  by_cases h : p
  · rw [decide_eq_true h]; exact iteF (h2 h)
  · rw [decide_eq_false h]; exact iteT (h1 h)
theorem iteB {b : Bool} {A B : Prop} (h1 : b = true → A) (h2 : b = false → B) : if b = true then A else B := by
  cases b with
  | true => exact iteT (h1 rfl)
  | false => exact iteF (h2 rfl)
theorem iteBN {b : Bool} {A B : Prop} (h1 : b = false → A) (h2 : b = true → B) : if (!b) = true then A else B := by
  cases b with
  | true => exact iteF (h2 rfl)
  | false => exact iteT (h1 rfl)
theorem iteDT {p A B : Prop} [Decidable p] (h : p) (k : A) : if decide p = true then A else B := by
  rw [if_pos (decide_eq_true h)]; exact k
theorem iteDF {p A B : Prop} [Decidable p] (h : ¬ p) (k : B) : if decide p = true then A else B := by
  rw [if_neg (fun x => h (of_decide_eq_true x))]; exact k
theorem iteNT {p A B : Prop} [Decidable p] (h : ¬ p) (k : A) : if (!decide p) = true then A else B := iteN (fun _ => k) (fun x => (h x).elim)
theorem iteNF {p A B : Prop} [Decidable p] (h : p) (k : B) : if (!decide p) = true then A else B := iteN (fun x => (x h).elim) (fun _ => k)

/-! ### equality of lists of ints -/
theorem eqvAll_ints : ∀ xs ys : List Int, PyData.eqvAll (xs.map PyData.int) (ys.map PyData.int) = decide (xs = ys)
  | [], [] => by simp [PyData.eqvAll]
  | [], y :: ys => by simp [PyData.eqvAll]
  | x :: xs, [] => by simp [PyData.eqvAll]
  | x :: xs, y :: ys => by
    have ih := eqvAll_ints xs ys
    simp only [List.map_cons, PyData.eqvAll, PyData.eqv, ih]
    by_cases h : x = y <;> by_cases h2 : xs = ys <;> simp [h, h2]
end Vx

namespace Vx
open PySem PySem.Spec PyProof.Rows L2
section
variable {X : Cx}
def rEqLi (K : PySem.W.Frag) : R2 := fun x y H Q => ∃ (a b : Addr) (xs ys : List Int), x = .ref a ∧ y = .ref b ∧ SqL K H a (xs.map V.int) ∧ SqL K H b (ys.map V.int) ∧ Q (.bl (decide (xs = ys))) H
def rNeLi (K : PySem.W.Frag) : R2 := fun x y H Q => ∃ (a b : Addr) (xs ys : List Int), x = .ref a ∧ y = .ref b ∧ SqL K H a (xs.map V.int) ∧ SqL K H b (ys.map V.int) ∧ Q (.bl (!decide (xs = ys))) H
theorem dpAll_ints {K : PySem.W.Frag} {H : Hp} : ∀ xs : List Int, DpAll K H (xs.map V.int) (xs.map PyData.int)
  | [] => .nil
  | x :: xs => .cons (.int x) (dpAll_ints xs)
theorem dp_ints {K : PySem.W.Frag} {H : Hp} {a : Addr} {xs : List Int} (h : SqL K H a (xs.map V.int)) : Dp K H (.ref a) (.list (xs.map PyData.int)) := .lst h (dpAll_ints xs)
theorem canLay_ints : ∀ xs : List Int, PyData.canLayAll0 (xs.map PyData.int) = true
  | [] => by simp [PyData.canLayAll0]
  | x :: xs => by simp [PyData.canLayAll0, PyData.canLay0, canLay_ints xs]
theorem depth_ints : ∀ xs : List Int, PyData.depthAll (xs.map PyData.int) = 0
  | [] => by simp [PyData.depthAll]
  | x :: xs => by simp [PyData.depthAll, PyData.depth, depth_ints xs]
theorem shaped_ints (xs : List Int) : SeqAt.shaped (.list (xs.map PyData.int)) = true := by
  unfold SeqAt.shaped
  simp [PyData.canLay0, canLay_ints, PyData.depth, depth_ints]
theorem eqv_ints (xs ys : List Int) : PyData.eqv (.list (xs.map PyData.int)) (.list (ys.map PyData.int)) = decide (xs = ys) := by
  simp only [PyData.eqv]
  exact eqvAll_ints xs ys
theorem op_eqLi (hu : X.A.units + 64 < cLine) : OpR X (compareOp .Eq) (rEqLi X.K) := by
  intro pins s σ H x y v u Q I rx ry h
  obtain ⟨a, b, xs, ys, rfl, rfl, h1, h2, q⟩ := h
  exact op_eqD hu pins s σ H _ _ v u Q I rx ry ⟨_, _, dp_ints h1, dp_ints h2, shaped_ints xs, shaped_ints ys, by rw [eqv_ints]; exact q⟩
theorem op_neLi (hu : X.A.units + 64 < cLine) : OpR X (compareOp .NotEq) (rNeLi X.K) := by
  intro pins s σ H x y v u Q I rx ry h
  obtain ⟨a, b, xs, ys, rfl, rfl, h1, h2, q⟩ := h
  exact op_neD hu pins s σ H _ _ v u Q I rx ry ⟨_, _, dp_ints h1, dp_ints h2, shaped_ints xs, shaped_ints ys, by rw [eqv_ints]; exact q⟩

/-! ### items, slices, repetition, comprehensions of ints -/
def itI (xs : List Int) (i : Int) : Int := (atI xs i).getD 0
theorem atI_int {xs : List Int} {i : Int} (h : -(xs.length : Int) ≤ i ∧ i < xs.length) : atI (xs.map V.int) i = some (.int (itI xs i)) := by
  unfold itI atI
  rw [List.length_map]
  have hk : ∃ j, ixN xs.length i = some j ∧ j < xs.length := by
    unfold ixN
    by_cases h0 : 0 ≤ i
    · refine ⟨i.toNat, ?_, by omega⟩
      rw [if_pos h0, if_pos h.2]
    · refine ⟨(i + xs.length).toNat, ?_, by omega⟩
      rw [if_neg h0, if_pos h.1]
  obtain ⟨j, e, hj⟩ := hk
  rw [e]
  show (xs.map V.int)[j]? = some (V.int ((xs[j]?).getD 0))
  rw [List.getElem?_map, List.getElem?_eq_getElem hj] <;> rfl
def cutI (xs : List Int) (lo hi : Option Int) : List Int := (xs.drop (HT.sIx xs.length 0 lo)).take (HT.sIx xs.length xs.length hi - HT.sIx xs.length 0 lo)
theorem cut_int {xs : List Int} {lo hi : Option Int} {H : Hp} {p : Addr} (h : H p = some (.lst (cutV (xs.map V.int) lo hi))) : H p = some (.lst ((cutI xs lo hi).map V.int)) := by
  rw [h]
  unfold cutV cutI
  rw [List.length_map, List.map_take, List.map_drop]
def rep (xs : List Int) (k : Int) : List Int := (List.replicate k.toNat xs).flatten
theorem rep_int {xs : List Int} {k : Int} {H : Hp} {p : Addr} (h : H p = some (.lst (List.replicate k.toNat (xs.map V.int)).flatten)) : H p = some (.lst ((rep xs k).map V.int)) := by
  rw [h]
  unfold rep
  rw [List.map_flatten, List.map_replicate]
theorem divW_lit {i j : Int} (h : 0 < j) (h2 : j.natAbs.log2 < 9000) : CDivW i j := ⟨h, h2⟩
theorem divW_small {i j : Int} (h : 0 < j) (h2 : j < 2 ^ 128) : CDivW i j := wide_div h (show j.natAbs < 2 ^ 128 by omega) (by decide) (by decide)
theorem comp_list {xs : List Int} {i : Nat} {x y : Int} {f : Int → Int} {H : Hp} {D : Addr} (hi : xs[i]? = some x) (h : H D = some (.lst (((xs.take i).map f).map V.int ++ [V.int y]))) (e : f x = y) : H D = some (.lst (((xs.take (i + 1)).map f).map V.int)) := by
  rw [h, ← e, List.take_succ, hi, List.map_append, List.map_append] <;> rfl
theorem comp_done {xs : List Int} {f : Int → Int} {H : Hp} {D : Addr} (h : H D = some (.lst (((xs.take (xs.map V.int).length).map f).map V.int))) : H D = some (.lst ((xs.map f).map V.int)) := by
  rw [List.length_map, List.take_length] at h
  exact h
theorem comp_range {i : Nat} {y : Int} {f : Nat → Int} {H : Hp} {D : Addr} (h : H D = some (.lst (((List.range i).map f).map V.int ++ [V.int y]))) (e : f i = y) : H D = some (.lst (((List.range (i + 1)).map f).map V.int)) := by
  rw [h, ← e, List.range_succ, List.map_append, List.map_append] <;> rfl
theorem iteBT {b : Bool} {A B : Prop} (h : b = true) (k : A) : if b = true then A else B := by rw [if_pos h]; exact k
theorem iteBF {b : Bool} {A B : Prop} (h : b = false) (k : B) : if b = true then A else B := by rw [if_neg (by rw [h]; decide)]; exact k
theorem take_succ_get {α : Type} {xs : List α} {i : Nat} {x : α} (hi : xs[i]? = some x) : xs.take (i + 1) = xs.take i ++ [x] := by rw [List.take_succ, hi] <;> rfl
end

/-! ### defs of the module, as callers see them -/
section
variable {P : Program} {w : World} {K : PySem.W.Frag} {mg : Str → Option Value} {base : Heap}
structure DefIn (K : PySem.W.Frag) (mg : Str → Option Value) (x : Str) (st : Stmt) (ps : List Str) : Prop where
  ex : ∃ (f : Addr) (fd : FuncData), Fun K x x st f fd ∧ mg x = some (.ref f) ∧ Binds K fd ps []
structure Cal (P : Program) (w : World) (K : PySem.W.Frag) (mg : Str → Option Value) (base : Heap) (k : Nat) (x : Str) (sp : Sp) : Prop where
  ex : ∃ (f : Addr) (fd : FuncData) (ps : List Str), FnOk P w K mg base CX0 k f fd ps sp ∧ mg x = some (.ref f) ∧ PySem.W.keepIn K (.ref f) = true ∧ Binds K fd ps []
theorem DefIn.ok {x : Str} {st : Stmt} {N ps : List Str} {k : Nat} {sp : Sp} (D : DefIn K mg x st ps) (S : FnScope N ps (defScope st)) (len : ∀ vs H Q E, sp vs H Q E → vs.length = ps.length)
    (hbody : ∀ (f : Addr) (cdv : Value) (A : Around) (outer : List Env) (s : Shared) (H : Hp) (vs : List V) (Q : VK) (E : XK), Room k (A.deeper (envOfC x (defScope st) s.heap.objs.size f cdv)) → sp vs H Q E →
      ∃ t, PSs (cxOf CX0 P w K mg base N x (defScope st) f cdv A outer s H E).nox (defBody st) t ∧ t { nx := fun _ H' => Q .non H', rt := Q } (start N vs) H) : Cal P w K mg base (k + 1) x sp := by
  obtain ⟨f, fd, F, hm, b⟩ := D.ex
  exact ⟨f, fd, ps, F.ok S len (fun cdv A outer s H vs Q E hr h => hbody f cdv A outer s H vs Q E hr h), hm, F.kp, b⟩
end
section
variable {X : Cx} {k j : Nat} {x : Str} {sp : Sp} {p pos : Pos} {e : Expr} {es : List Expr} {t : TA}
theorem vx_call (c : Cal X.prog X.w X.K X.mg X.base k x sp) (hr : Room j X.A) (hk : k ≤ j) (hg : Gl X x) (ha : PA X (e :: es) t)
    (hdb : (x == ("__debug__" : Str)) = false := by decide) (he : starEach (e :: es) X.env = (false, eval e X.env) :: starEach es X.env := by rfl) (hpl : (backTo pos (starEach es X.env)).any (·.1) = false := by rfl) :
    PE X (.Call (.Name x p) (e :: es) [] pos) (tCall sp [] E0 t) := by
  obtain ⟨f, fd, ps, F, hm, kp, b⟩ := c.ex
  exact pe_call F (hr.mono hk) hg hm kp b .nil pass0 ha hdb he hpl
end
end Vx

namespace Vx
open PySem PySem.Spec PyProof.Rows L2
section
variable {σ : L2.St} {H : Hp} {ta tb : TE} {x y z : V} {t : TT}
theorem vv_and {a b : Bool} (h1 : Val ta σ H (.bl a)) (h2 : Val tb σ H (.bl b)) : Val (tAndV ta tb) σ H (.bl (a && b)) := fun Q q => h1 _ ⟨a, rfl, by
  cases a with
  | true => exact iteT (h2 Q q)
  | false => exact iteF q⟩
theorem vv_or {a b : Bool} (h1 : Val ta σ H (.bl a)) (h2 : Val tb σ H (.bl b)) : Val (tOrV ta tb) σ H (.bl (a || b)) := fun Q q => h1 _ ⟨a, rfl, by
  cases a with
  | true => exact iteT q
  | false => exact iteF (h2 Q q)⟩
theorem vv_not {a : Bool} (h1 : Val ta σ H (.bl a)) : Val (tNotV ta) σ H (.bl (!a)) := fun Q q => h1 _ ⟨a, rfl, q⟩
theorem vv_un {r : V → Hp → VK → Prop} (ha : Val ta σ H x) (hr : ∀ Q : VK, Q z H → r x H Q) : Val (tUn r ta) σ H z := fun Q q => ha _ (hr Q q)
theorem vv_cmp {p : Int → Int → Bool} (ha : Val ta σ H x) (hb : Val tb σ H y) (hr : ∀ Q : VK, Q z H → ∃ i j, x = .int i ∧ y = .int j ∧ Q (.bl (p i j)) H) : Val (tCmp p ta tb) σ H z := fun Q q => ha _ (hb _ (hr Q q))
theorem vv_call1 {r : List V → Hp → VK → Prop} (ha : Val ta σ H x) (hr : ∀ Q : VK, Q z H → r [x] H Q) : Val (tCB r (tCons ta tNil)) σ H z := fun Q q => ha _ (hr Q q)
theorem vt_cmp {b : Bool} (h : Val ta σ H (.bl b)) : Ans (tB ta) σ H b := fun Q q => h _ ⟨b, rfl, q⟩
theorem vt_val {b : Bool} (h : Val ta σ H (.bl b)) : Ans (tB ta) σ H b := fun Q q => h _ ⟨b, rfl, q⟩
theorem vt_int {i : Int} {K : PySem.W.Frag} (h : Val ta σ H (.int i)) : Ans (fun σ H Q => ta σ H fun x H' => ∃ k, TruV K x H' k ∧ Q k H') σ H (i != 0) := fun Q q => h _ ⟨_, rfl, q⟩
theorem vv_if {p : Prop} [Decidable p] {a b : Int} (ht : Ans t σ H (decide p)) (hx : Val ta σ H (.int a)) (hy : Val tb σ H (.int b)) : Val (tIf t ta tb) σ H (.int (if p then a else b)) := fun Q q => ht _ (by
  by_cases h : p
  · rw [if_pos h] at q; exact iteDT h (hx Q q)
  · rw [if_neg h] at q; exact iteDF h (hy Q q))
theorem vv_ifb {c : Bool} {a b : Int} (ht : Ans t σ H c) (hx : Val ta σ H (.int a)) (hy : Val tb σ H (.int b)) : Val (tIf t ta tb) σ H (.int (if c = true then a else b)) := fun Q q => ht _ (by
  cases c with
  | true => exact iteT (hx Q q)
  | false => exact iteF (hy Q q))
end
end Vx

namespace Vx
open PySem PySem.Spec PyProof.Rows L2
def rLenLi (K : PySem.W.Frag) : List V → Hp → VK → Prop := fun xs H Q => ∃ (p : Addr) (ns : List Int), xs = [.ref p] ∧ SqL K H p (ns.map V.int) ∧ Q (.int (ns.length : Int)) H
theorem call_lenLi {X : Cx} : CallR X (.builtin "len") (rLenLi X.K) := by
  intro pins s σ H xs us Q I r h
  obtain ⟨p, ns, rfl, hs, q⟩ := h
  exact call_len_seq pins s σ H _ us Q I r ⟨p, _, rfl, Or.inl hs, by rw [List.length_map]; exact q⟩
end Vx

namespace Vx
open PySem PySem.Spec PyProof.Rows L2
section
variable {X : Cx} {K : PySem.W.Frag}
theorem ix_listK (hK : X.K = K := by rfl) : IxR X (rIxL K) := hK ▸ ix_list
theorem sl_listK (hK : X.K = K := by rfl) : SlR X (rSlL K) := hK ▸ sl_list
theorem call_lenLiK (hK : X.K = K := by rfl) : CallR X (.builtin "len") (rLenLi K) := hK ▸ call_lenLi
theorem op_eqLiK (hu : X.A.units + 64 < cLine) (hK : X.K = K := by rfl) : OpR X (compareOp .Eq) (rEqLi K) := hK ▸ op_eqLi hu
theorem op_neLiK (hu : X.A.units + 64 < cLine) (hK : X.K = K := by rfl) : OpR X (compareOp .NotEq) (rNeLi K) := hK ▸ op_neLi hu
theorem pi_listK {tg l : Expr} {tl : TE} (hl : PE X l tl) (hK : X.K = K := by rfl) : PI X tg l (iList K tl) := hK ▸ pi_list hl
theorem cr_sumK (hc : X.calm = true) (hK : X.K = K := by rfl) : CallR X (.builtin "sum") (rSum K) := hK ▸ cr_sum hc
theorem cr_maxK (hc : X.calm = true) (hK : X.K = K := by rfl) : CallR X (.builtin "max") (rMax K) := hK ▸ cr_max hc
theorem cr_minK (hc : X.calm = true) (hK : X.K = K := by rfl) : CallR X (.builtin "min") (rMin K) := hK ▸ cr_min hc
end
end Vx

namespace Vx
open PySem PySem.Spec PyProof.Rows L2
theorem tyes_go {σ : L2.St} {H : Hp} {f g : Hp → Prop} (h : f H) : tYes σ H (fun b H3 => if b = true then f H3 else g H3) := by
  show if true = true then f H else g H
  exact iteT h
end Vx

/-! # second part: data of any depth, the stable heap G, the owned addresses O -/
namespace Vx
open PySem PySem.Spec PyProof.Rows L2
mutual
inductive Rp (H : Hp) : V → PyData → Prop
  | non : Rp H .non .none
  | bl (b : Bool) : Rp H (.bl b) (.bool b)
  | int (i : Int) : Rp H (.int i) (.int i)
  | str (x : Str) : Rp H (.str x) (.str x)
  | lst {a : Addr} {xs : List V} {ds : List PyData} : H a = some (.lst xs) → RpAll H xs ds → Rp H (.ref a) (.list ds)
  | tup {a : Addr} {xs : List V} {ds : List PyData} : H a = some (.tup xs) → RpAll H xs ds → Rp H (.ref a) (.tuple ds)
inductive RpAll (H : Hp) : List V → List PyData → Prop
  | nil : RpAll H [] []
  | cons {v : V} {vs : List V} {d : PyData} {ds : List PyData} : Rp H v d → RpAll H vs ds → RpAll H (v :: vs) (d :: ds)
end
mutual
theorem Rp.mono {H H' : Hp} (e : Same H H') : ∀ {v : V} {d : PyData}, Rp H v d → Rp H' v d
  | _, _, .non => .non
  | _, _, .bl b => .bl b
  | _, _, .int i => .int i
  | _, _, .str x => .str x
  | _, _, .lst h r => .lst (e _ _ h) (RpAll.mono e r)
  | _, _, .tup h r => .tup (e _ _ h) (RpAll.mono e r)
theorem RpAll.mono {H H' : Hp} (e : Same H H') : ∀ {vs : List V} {ds : List PyData}, RpAll H vs ds → RpAll H' vs ds
  | _, _, .nil => .nil
  | _, _, .cons a b => .cons (Rp.mono e a) (RpAll.mono e b)
end
mutual
theorem Rp.dp {K : PySem.W.Frag} {H : Hp} : ∀ {v : V} {d : PyData}, Rp H v d → Dp K H v d
  | _, _, .non => .non
  | _, _, .bl b => .bl b
  | _, _, .int i => .int i
  | _, _, .str x => .str x
  | _, _, .lst h r => .lst (SqL.of h) (RpAll.dp r)
  | _, _, .tup h r => .tup (SqT.of h) (RpAll.dp r)
theorem RpAll.dp {K : PySem.W.Frag} {H : Hp} : ∀ {vs : List V} {ds : List PyData}, RpAll H vs ds → DpAll K H vs ds
  | _, _, .nil => .nil
  | _, _, .cons a b => .cons (Rp.dp a) (RpAll.dp b)
end
theorem RpAll.append {H : Hp} : ∀ {xs ys : List V} {ds es : List PyData}, RpAll H xs ds → RpAll H ys es → RpAll H (xs ++ ys) (ds ++ es)
  | _, _, _, _, .nil, s => s
  | _, _, _, _, .cons r t, s => .cons r (RpAll.append t s)
theorem RpAll.ints {H : Hp} : ∀ xs : List Int, RpAll H (xs.map V.int) (xs.map PyData.int)
  | [] => .nil
  | x :: xs => .cons (.int x) (RpAll.ints xs)
theorem RpAll.bls {H : Hp} : ∀ xs : List Bool, RpAll H (xs.map V.bl) (xs.map PyData.bool)
  | [] => .nil
  | x :: xs => .cons (.bl x) (RpAll.bls xs)
theorem RpAll.one {H : Hp} {v : V} {d : PyData} (h : Rp H v d) : RpAll H [v] [d] := .cons h .nil
theorem RpAll.len {H : Hp} : ∀ {vs : List V} {ds : List PyData}, RpAll H vs ds → vs.length = ds.length
  | _, _, .nil => rfl
  | _, _, .cons _ t => by rw [List.length_cons, List.length_cons, RpAll.len t]
theorem RpAll.at {H : Hp} : ∀ {vs : List V} {ds : List PyData} {i : Nat} {v : V}, RpAll H vs ds → vs[i]? = some v → ∃ d, ds[i]? = some d ∧ Rp H v d
  | _, _, _, _, .nil, h => by simp at h
  | _, _, 0, _, .cons r _, h => by
    simp at h
    subst h
    exact ⟨_, rfl, r⟩
  | _, _, i + 1, _, .cons _ t, h => by
    obtain ⟨d, h1, h2⟩ := RpAll.at (i := i) t (by simpa using h)
    exact ⟨d, by simpa using h1, h2⟩
theorem RpAll.at' {H : Hp} : ∀ {vs : List V} {ds : List PyData} {i : Nat} {d : PyData}, RpAll H vs ds → ds[i]? = some d → ∃ v, vs[i]? = some v ∧ Rp H v d
  | _, _, _, _, .nil, h => by simp at h
  | _, _, 0, _, .cons r _, h => by
    simp at h
    subst h
    exact ⟨_, rfl, r⟩
  | _, _, i + 1, _, .cons _ t, h => by
    obtain ⟨v, h1, h2⟩ := RpAll.at' (i := i) t (by simpa using h)
    exact ⟨v, by simpa using h1, h2⟩
theorem RpAll.take {H : Hp} : ∀ (n : Nat) {vs : List V} {ds : List PyData}, RpAll H vs ds → RpAll H (vs.take n) (ds.take n)
  | 0, _, _, _ => by simpa using RpAll.nil
  | n + 1, _, _, .nil => by simpa using RpAll.nil
  | n + 1, _, _, .cons r t => .cons r (RpAll.take n t)
theorem RpAll.drop {H : Hp} : ∀ (n : Nat) {vs : List V} {ds : List PyData}, RpAll H vs ds → RpAll H (vs.drop n) (ds.drop n)
  | 0, _, _, r => r
  | n + 1, _, _, .nil => by simpa using RpAll.nil
  | n + 1, _, _, .cons r t => RpAll.drop n t
theorem RpAll.set {H : Hp} {v : V} {d : PyData} (h : Rp H v d) : ∀ (n : Nat) {vs : List V} {ds : List PyData}, RpAll H vs ds → RpAll H (vs.set n v) (ds.set n d)
  | _, _, _, .nil => .nil
  | 0, _, _, .cons _ t => .cons h t
  | n + 1, _, _, .cons r t => .cons r (RpAll.set h n t)
theorem RpAll.rep {H : Hp} {vs : List V} {ds : List PyData} (h : RpAll H vs ds) : ∀ n : Nat, RpAll H (List.replicate n vs).flatten (List.replicate n ds).flatten
  | 0 => by simpa using RpAll.nil
  | n + 1 => by
    rw [List.replicate_succ, List.flatten_cons, List.replicate_succ, List.flatten_cons]
    exact RpAll.append h (RpAll.rep h n)
theorem RpAll.get {α : Type} {f : α → PyData} {H : Hp} {vs : List V} {xs : List α} {i : Nat} {v : V} (r : RpAll H vs (xs.map f)) (h : vs[i]? = some v) : ∃ x, xs[i]? = some x ∧ Rp H v (f x) := by
  obtain ⟨d, h1, h2⟩ := RpAll.at r h
  rw [List.getElem?_map] at h1
  cases e : xs[i]? with
  | none => rw [e] at h1; cases h1
  | some x =>
    rw [e] at h1
    have : f x = d := Option.some.inj h1
    exact ⟨x, rfl, this ▸ h2⟩
/-- the item at an index, data -/
theorem RpAll.ix {α : Type} {f : α → PyData} {H : Hp} {vs : List V} {xs : List α} {k : Int} (r : RpAll H vs (xs.map f)) (h : -(xs.length : Int) ≤ k ∧ k < xs.length) : ∃ v x, atI vs k = some v ∧ atI xs k = some x ∧ Rp H v (f x) := by
  have hl : vs.length = xs.length := by rw [r.len, List.length_map]
  have hk : ∃ j, ixN xs.length k = some j ∧ j < xs.length := by
    unfold ixN
    by_cases h0 : 0 ≤ k
    · refine ⟨k.toNat, ?_, by omega⟩
      rw [if_pos h0, if_pos h.2]
    · refine ⟨(k + xs.length).toNat, ?_, by omega⟩
      rw [if_neg h0, if_pos h.1]
  obtain ⟨j, e, hj⟩ := hk
  have hx := List.getElem?_eq_getElem hj
  obtain ⟨v, h1, h2⟩ := RpAll.at' (i := j) (d := f xs[j]) r (by rw [List.getElem?_map, hx] <;> rfl)
  refine ⟨v, xs[j], ?_, ?_, h2⟩
  · unfold atI
    rw [hl, e]
    exact h1
  · unfold atI
    rw [e]
    exact hx

/-! ### types -/
def encL {α : Type} (f : α → PyData) (xs : List α) : PyData := .list (xs.map f)
def encT2 {α β : Type} (f : α → PyData) (g : β → PyData) (p : α × β) : PyData := .tuple [f p.1, g p.2]
def encT3 {α β γ : Type} (f : α → PyData) (g : β → PyData) (h : γ → PyData) (p : α × β × γ) : PyData := .tuple [f p.1, g p.2.1, h p.2.2]
def encT4 {α β γ δ : Type} (f : α → PyData) (g : β → PyData) (h : γ → PyData) (i : δ → PyData) (p : α × β × γ × δ) : PyData := .tuple [f p.1, g p.2.1, h p.2.2.1, i p.2.2.2]
structure EncOk {α : Type} [DecidableEq α] (n : Nat) (f : α → PyData) : Prop where
  lay : ∀ x, PyData.canLay0 (f x) = true
  dep : ∀ x, PyData.depth (f x) ≤ n
  eqv : ∀ x y, PyData.eqv (f x) (f y) = decide (x = y)
theorem encOk_int : EncOk 0 PyData.int := ⟨fun _ => by simp [PyData.canLay0], fun _ => by simp [PyData.depth], fun x y => by simp [PyData.eqv]; by_cases h : x = y <;> simp [h]⟩
theorem encOk_bool : EncOk 0 PyData.bool := ⟨fun _ => by simp [PyData.canLay0], fun _ => by simp [PyData.depth], fun x y => by cases x <;> cases y <;> simp [PyData.eqv]⟩
section
variable {α β γ δ : Type} [DecidableEq α] [DecidableEq β] [DecidableEq γ] [DecidableEq δ] {n m l o : Nat} {f : α → PyData} {g : β → PyData} {h : γ → PyData} {i : δ → PyData}
theorem lay_map (ok : EncOk n f) : ∀ xs : List α, PyData.canLayAll0 (xs.map f) = true
  | [] => by simp [PyData.canLayAll0]
  | x :: xs => by simp [PyData.canLayAll0, ok.lay x, lay_map ok xs]
theorem dep_map (ok : EncOk n f) : ∀ xs : List α, PyData.depthAll (xs.map f) ≤ n
  | [] => by simp [PyData.depthAll]
  | x :: xs => by
    have h1 := ok.dep x
    have h2 := dep_map ok xs
    simp only [List.map_cons, PyData.depthAll]
    omega
theorem eqv_map (ok : EncOk n f) : ∀ xs ys : List α, PyData.eqvAll (xs.map f) (ys.map f) = decide (xs = ys)
  | [], [] => by simp [PyData.eqvAll]
  | [], y :: ys => by simp [PyData.eqvAll]
  | x :: xs, [] => by simp [PyData.eqvAll]
  | x :: xs, y :: ys => by
    have ih := eqv_map ok xs ys
    simp only [List.map_cons, PyData.eqvAll, ok.eqv, ih]
    by_cases h : x = y <;> by_cases h2 : xs = ys <;> simp [h, h2]
theorem encOk_L (ok : EncOk n f) : EncOk (n + 1) (encL f) := ⟨fun xs => by simp [encL, PyData.canLay0, lay_map ok], fun xs => by
  have := dep_map ok xs
  simp only [encL, PyData.depth]
  omega, fun xs ys => by simp only [encL, PyData.eqv]; exact eqv_map ok xs ys⟩
theorem encOk_T2 (ok : EncOk n f) (ok2 : EncOk m g) : EncOk (max n m + 1) (encT2 f g) := ⟨fun x => by simp [encT2, PyData.canLay0, PyData.canLayAll0, ok.lay, ok2.lay], fun x => by
  have h1 := ok.dep x.1
  have h2 := ok2.dep x.2
  simp only [encT2, PyData.depth, PyData.depthAll]
  omega, fun x y => by
  obtain ⟨a, b⟩ := x
  obtain ⟨c, d⟩ := y
  simp only [encT2, PyData.eqv, PyData.eqvAll, ok.eqv, ok2.eqv, Prod.mk.injEq]
  by_cases h1 : a = c <;> by_cases h2 : b = d <;> simp [h1, h2]⟩
theorem encOk_T3 (ok : EncOk n f) (ok2 : EncOk m g) (ok3 : EncOk l h) : EncOk (max n (max m l) + 1) (encT3 f g h) := ⟨fun x => by simp [encT3, PyData.canLay0, PyData.canLayAll0, ok.lay, ok2.lay, ok3.lay], fun x => by
  have h1 := ok.dep x.1
  have h2 := ok2.dep x.2.1
  have h3 := ok3.dep x.2.2
  simp only [encT3, PyData.depth, PyData.depthAll]
  omega, fun x y => by
  obtain ⟨a, b, e⟩ := x
  obtain ⟨c, d, e'⟩ := y
  simp only [encT3, PyData.eqv, PyData.eqvAll, ok.eqv, ok2.eqv, ok3.eqv, Prod.mk.injEq]
  by_cases h1 : a = c <;> by_cases h2 : b = d <;> by_cases h3 : e = e' <;> simp [h1, h2, h3]⟩
theorem encOk_T4 (ok : EncOk n f) (ok2 : EncOk m g) (ok3 : EncOk l h) (ok4 : EncOk o i) : EncOk (max n (max m (max l o)) + 1) (encT4 f g h i) := ⟨fun x => by simp [encT4, PyData.canLay0, PyData.canLayAll0, ok.lay, ok2.lay, ok3.lay, ok4.lay], fun x => by
  have h1 := ok.dep x.1
  have h2 := ok2.dep x.2.1
  have h3 := ok3.dep x.2.2.1
  have h4 := ok4.dep x.2.2.2
  simp only [encT4, PyData.depth, PyData.depthAll]
  omega, fun x y => by
  obtain ⟨a, b, e, u⟩ := x
  obtain ⟨c, d, e', u'⟩ := y
  simp only [encT4, PyData.eqv, PyData.eqvAll, ok.eqv, ok2.eqv, ok3.eqv, ok4.eqv, Prod.mk.injEq]
  by_cases h1 : a = c <;> by_cases h2 : b = d <;> by_cases h3 : e = e' <;> by_cases h4 : u = u' <;> simp [h1, h2, h3, h4]⟩
end
section
variable {X : Cx} {α : Type} [DecidableEq α] {n : Nat} {f : α → PyData}
def rEqT (f : α → PyData) : R2 := fun x y H Q => ∃ (a b : α), Rp H x (f a) ∧ Rp H y (f b) ∧ Q (.bl (decide (a = b))) H
def rNeT (f : α → PyData) : R2 := fun x y H Q => ∃ (a b : α), Rp H x (f a) ∧ Rp H y (f b) ∧ Q (.bl (!decide (a = b))) H
theorem shaped_of (ok : EncOk n f) (hn : n ≤ 64) (a : α) : SeqAt.shaped (f a) = true := by
  unfold SeqAt.shaped
  have h := ok.dep a
  rw [ok.lay]
  simp
  omega
theorem op_eqT (ok : EncOk n f) (hu : X.A.units + 64 < cLine) (hn : n ≤ 64 := by decide) : OpR X (compareOp .Eq) (rEqT f) := by
  intro pins s σ H x y v u Q I rx ry h
  obtain ⟨a, b, h1, h2, q⟩ := h
  exact op_eqD hu pins s σ H _ _ v u Q I rx ry ⟨_, _, h1.dp, h2.dp, shaped_of ok hn a, shaped_of ok hn b, by rw [ok.eqv]; exact q⟩
theorem op_neT (ok : EncOk n f) (hu : X.A.units + 64 < cLine) (hn : n ≤ 64 := by decide) : OpR X (compareOp .NotEq) (rNeT f) := by
  intro pins s σ H x y v u Q I rx ry h
  obtain ⟨a, b, h1, h2, q⟩ := h
  exact op_neD hu pins s σ H _ _ v u Q I rx ry ⟨_, _, h1.dp, h2.dp, shaped_of ok hn a, shaped_of ok hn b, by rw [ok.eqv]; exact q⟩
end
section
variable {H : Hp} {v : V} {α β γ δ : Type} {f : α → PyData} {g : β → PyData} {h : γ → PyData} {i : δ → PyData}
theorem rp_int {x : Int} (r : Rp H v (.int x)) : v = .int x := by cases r; rfl
theorem rp_bool {x : Bool} (r : Rp H v (.bool x)) : v = .bl x := by cases r; rfl
theorem rp_str {x : Str} (r : Rp H v (.str x)) : v = .str x := by cases r; rfl
theorem rp_list {xs : List α} (r : Rp H v (encL f xs)) : ∃ a vs, v = .ref a ∧ H a = some (.lst vs) ∧ RpAll H vs (xs.map f) := by
  unfold encL at r
  cases r with
  | lst h1 h2 => exact ⟨_, _, rfl, h1, h2⟩
theorem rpAll_ints : ∀ {vs : List V} {xs : List Int}, RpAll H vs (xs.map PyData.int) → vs = xs.map V.int
  | _, [], .nil => rfl
  | _, x :: xs, .cons r t => by rw [rp_int r, rpAll_ints t] <;> rfl
theorem rp_ints {xs : List Int} (r : Rp H v (encL PyData.int xs)) : ∃ a, v = .ref a ∧ H a = some (.lst (xs.map V.int)) := by
  obtain ⟨a, vs, e, h1, h2⟩ := rp_list r
  rw [rpAll_ints h2] at h1
  exact ⟨a, e, h1⟩
theorem rp_tup2 {x : α × β} (r : Rp H v (encT2 f g x)) : ∃ a v1 v2, v = .ref a ∧ H a = some (.tup [v1, v2]) ∧ Rp H v1 (f x.1) ∧ Rp H v2 (g x.2) := by
  unfold encT2 at r
  cases r with
  | tup h1 h2 =>
    cases h2 with
    | cons a b =>
      cases b with
      | cons b c =>
        cases c
        exact ⟨_, _, _, rfl, h1, a, b⟩
theorem rp_tup3 {x : α × β × γ} (r : Rp H v (encT3 f g h x)) : ∃ a v1 v2 v3, v = .ref a ∧ H a = some (.tup [v1, v2, v3]) ∧ Rp H v1 (f x.1) ∧ Rp H v2 (g x.2.1) ∧ Rp H v3 (h x.2.2) := by
  unfold encT3 at r
  cases r with
  | tup h1 h2 =>
    cases h2 with
    | cons a b =>
      cases b with
      | cons b c =>
        cases c with
        | cons c d =>
          cases d
          exact ⟨_, _, _, _, rfl, h1, a, b, c⟩
theorem rp_mk_list {a : Addr} {vs : List V} {xs : List α} (h1 : H a = some (.lst vs)) (h2 : RpAll H vs (xs.map f)) : Rp H (.ref a) (encL f xs) := .lst h1 h2
theorem rp_mk_ints {a : Addr} {xs : List Int} (h1 : H a = some (.lst (xs.map V.int))) : Rp H (.ref a) (encL PyData.int xs) := .lst h1 (RpAll.ints xs)
theorem rp_mk2 {a : Addr} {v1 v2 : V} {x : α} {y : β} (h1 : H a = some (.tup [v1, v2])) (r1 : Rp H v1 (f x)) (r2 : Rp H v2 (g y)) : Rp H (.ref a) (encT2 f g (x, y)) := .tup h1 (.cons r1 (.cons r2 .nil))
theorem rp_mk3 {a : Addr} {v1 v2 v3 : V} {x : α} {y : β} {z : γ} (h1 : H a = some (.tup [v1, v2, v3])) (r1 : Rp H v1 (f x)) (r2 : Rp H v2 (g y)) (r3 : Rp H v3 (h z)) : Rp H (.ref a) (encT3 f g h (x, y, z)) := .tup h1 (.cons r1 (.cons r2 (.cons r3 .nil)))
end

/-! ### the two heaps -/
def SameXs (L : List Addr) (H H' : Hp) : Prop := ∀ b o, H b = some o → b ∉ L → H' b = some o
theorem SameXs.of {H H' : Hp} {m : Addr} (x : SameX m H H') : SameXs [m] H H' := fun b o e n => x b o e (fun z => n (by rw [z]; exact List.mem_cons_self))
theorem ni1 {b m : Addr} (h : b ≠ m) : b ∉ [m] := by simpa using h
theorem ni2 {b m n : Addr} (h : b ≠ m) (h2 : b ≠ n) : b ∉ [m, n] := by simp [h, h2]
theorem ni3 {b m n o : Addr} (h : b ≠ m) (h2 : b ≠ n) (h3 : b ≠ o) : b ∉ [m, n, o] := by simp [h, h2, h3]
theorem ni4 {b m n o p : Addr} (h : b ≠ m) (h2 : b ≠ n) (h3 : b ≠ o) (h4 : b ≠ p) : b ∉ [m, n, o, p] := by simp [h, h2, h3, h4]
def hideL (L : List Addr) (H : Hp) : Hp := fun b => if b ∈ L then none else H b
theorem hideL_same (L : List Addr) (H : Hp) : Same (hideL L H) H := fun b o e => by
  unfold hideL at e
  split at e
  · cases e
  · exact e
theorem hideL_in {L : List Addr} {H : Hp} {b : Addr} (h : b ∈ L) : hideL L H b = none := if_pos h
theorem hideL_out {L : List Addr} {H : Hp} {b : Addr} (h : b ∉ L) : hideL L H b = H b := if_neg h
/-- M: owned from outside; H0, G0: at the entry; G: what stays as it is; O: what may change -/
structure Sep (M : List Addr) (H0 G0 G H : Hp) (O : List Addr) : Prop where
  base : SameXs M H0 H
  pm : ∀ a ∈ M, H a ≠ none
  sG : Same G H
  g0 : Same G0 G
  gn : ∀ b, H0 b ≠ none → G0 b = none → G b = none
  ow : ∀ a ∈ O, G a = none ∧ H a ≠ none ∧ (a ∈ M ∨ H0 a = none)
theorem all_nil {P : Addr → Prop} : ∀ x ∈ ([] : List Addr), P x := fun x h => by cases h
theorem all_cons {P : Addr → Prop} {a : Addr} {l : List Addr} (h : P a) (t : ∀ x ∈ l, P x) : ∀ x ∈ a :: l, P x := fun x hx => by
  cases hx with
  | head => exact h
  | tail _ hx => exact t x hx
theorem some_ne {H : Hp} {a : Addr} {o : HO} (h : H a = some o) : H a ≠ none := by
  rw [h]
  exact fun z => nomatch z
theorem same_ne {H H' : Hp} {a : Addr} (e : Same H H') (h : H a ≠ none) : H' a ≠ none := by
  cases q : H a with
  | none => exact absurd q h
  | some o => exact some_ne (e a o q)
section
variable {M : List Addr} {H0 G0 G H H' : Hp} {O : List Addr} {p m : Addr} {o : HO}
theorem Sep.start (M : List Addr) (H : Hp) (hM : ∀ a ∈ M, H a ≠ none) : Sep M H (hideL M H) (hideL M H) H M :=
  ⟨fun _ _ e _ => e, hM, hideL_same M H, Same.refl _, fun _ _ e => e, fun a ha => ⟨hideL_in ha, hM a ha, .inl ha⟩⟩
theorem Sep.startG {G H : Hp} (e : Same G H) : Sep [] H G G H [] := ⟨fun _ _ e _ => e, all_nil, e, Same.refl _, fun _ _ e => e, fun a ha => by cases ha⟩
theorem Sep.start0 (H : Hp) : Sep [] H H H H [] := Sep.startG (Same.refl H)
theorem Sep.b0 (S : Sep [] H0 G0 G H O) : Same H0 H := fun b o e => S.base b o e List.not_mem_nil
theorem Sep.free (S : Sep M H0 G0 G H O) {q : Addr} (n : H q = none) : H0 q = none := by
  cases e : H0 q with
  | none => rfl
  | some o =>
    by_cases h : q ∈ M
    · exact absurd n (S.pm q h)
    · rw [S.base q o e h] at n
      cases n
theorem Sep.same (S : Sep M H0 G0 G H O) (e : Same H H') : Sep M H0 G0 G H' O :=
  ⟨fun b o h n => e b o (S.base b o h n), fun a ha => same_ne e (S.pm a ha), S.sG.trans e, S.g0, S.gn, fun a ha => ⟨(S.ow a ha).1, same_ne e (S.ow a ha).2.1, (S.ow a ha).2.2⟩⟩
theorem Sep.gfree (S : Sep M H0 G0 G H O) {q : Addr} (n : H q = none) : G q = none := by
  cases e : G q with
  | none => rfl
  | some o => rw [S.sG q o e] at n; cases n
theorem Sep.new (S : Sep M H0 G0 G H O) (n : H p = none) (e : Same H H') (h : H' p = some o) (hm : H0 p = none) : Sep M H0 G0 G H' (p :: O) := by
  have S1 := S.same e
  refine ⟨S1.base, S1.pm, S1.sG, S1.g0, S1.gn, fun a ha => ?_⟩
  cases ha with
  | head => exact ⟨S.gfree n, some_ne h, .inr hm⟩
  | tail _ ha => exact S1.ow a ha
theorem Sep.grow (S : Sep M H0 G0 G H O) (n : H p = none) (e : Same H H') (h : H' p = some o) (hm : H0 p = none) : ∃ G', Same G G' ∧ G' p = some o ∧ Sep M H0 G0 G' H' O := by
  have S1 := S.same e
  have ng := S.gfree n
  refine ⟨upd G p o, fun b u q => by rw [upd_ne (ne_of_none q ng)]; exact q, upd_same, S1.base, S1.pm, fun b u q => ?_, fun b u q => ?_, fun b hb gb => ?_, fun a ha => ?_⟩
  · by_cases z : b = p
    · subst z
      rw [upd_same] at q
      exact q ▸ h
    · rw [upd_ne z] at q
      exact S1.sG b u q
  · have := S.g0 b u q
    rw [upd_ne (ne_of_none this ng)]
    exact this
  · by_cases z : b = p
    · subst z
      exact absurd hm hb
    · rw [upd_ne z]
      exact S.gn b hb gb
  · have hne : a ≠ p := fun z => (S.ow a ha).2.1 (by rw [z]; exact n)
    rw [upd_ne hne]
    exact S1.ow a ha
theorem Sep.mut (S : Sep M H0 G0 G H O) {L : List Addr} (x : SameXs L H H') (hL : ∀ a ∈ L, a ∈ O) (hs : ∀ a ∈ L, H' a ≠ none) : Sep M H0 G0 G H' O := by
  have keep : ∀ a, H a ≠ none → H' a ≠ none := fun a h => by
    by_cases hb : a ∈ L
    · exact hs a hb
    · cases q : H a with
      | none => exact absurd q h
      | some o => exact some_ne (x a o q hb)
  refine ⟨fun b o e n => ?_, fun a ha => keep a (S.pm a ha), fun b o e => ?_, S.g0, S.gn, fun a ha => ⟨(S.ow a ha).1, keep a (S.ow a ha).2.1, (S.ow a ha).2.2⟩⟩
  · refine x b o (S.base b o e n) fun hb => ?_
    rcases (S.ow b (hL b hb)).2.2 with z | z
    · exact n z
    · rw [e] at z; cases z
  · refine x b o (S.sG b o e) fun hb => ?_
    have := (S.ow b (hL b hb)).1
    rw [e] at this
    cases this
theorem Sep.mut1 (S : Sep M H0 G0 G H O) (x : SameX m H H') (hm : m ∈ O) (h : H' m = some o) : Sep M H0 G0 G H' O :=
  S.mut (SameXs.of x) (all_cons hm all_nil) (all_cons (some_ne h) all_nil)
theorem Sep.sub (S : Sep M H0 G0 G H O) {O' : List Addr} (h : ∀ a ∈ O', a ∈ O) : Sep M H0 G0 G H O' := ⟨S.base, S.pm, S.sG, S.g0, S.gn, fun a ha => S.ow a (h a ha)⟩
/-- what was owned and is to stay as it is from now on -/
theorem Sep.freeze (S : Sep M H0 G0 G H O) {O' : List Addr} (hp : p ∈ O) (h : H p = some o) (hm : H0 p = none) (hO : ∀ a ∈ O', a ∈ O ∧ a ≠ p) : ∃ G', Same G G' ∧ G' p = some o ∧ Sep M H0 G0 G' H O' := by
  have ng := (S.ow p hp).1
  refine ⟨upd G p o, fun b u q => by rw [upd_ne (ne_of_none q ng)]; exact q, upd_same, S.base, S.pm, fun b u q => ?_, fun b u q => ?_, fun b hb gb => ?_, fun a ha => ?_⟩
  · by_cases z : b = p
    · subst z
      rw [upd_same] at q
      exact q ▸ h
    · rw [upd_ne z] at q
      exact S.sG b u q
  · have := S.g0 b u q
    rw [upd_ne (ne_of_none this ng)]
    exact this
  · by_cases z : b = p
    · subst z
      exact absurd hm hb
    · rw [upd_ne z]
      exact S.gn b hb gb
  · rw [upd_ne (hO a ha).2]
    exact S.ow a (hO a ha).1
/-- a callee that hands on data in a stable heap of its own -/
theorem Sep.step (S : Sep M H0 G0 G H O) {G' : Hp} (e : Same H H') (eG : Same G G') (sG : Same G' H') (hn : ∀ b, H b ≠ none → G b = none → G' b = none) : Sep M H0 G0 G' H' O := by
  have S1 := S.same e
  refine ⟨S1.base, S1.pm, sG, S.g0.trans eG, fun b hb gb => ?_, fun a ha => ⟨hn a (S.ow a ha).2.1 (S.ow a ha).1, (S1.ow a ha).2⟩⟩
  refine hn b (fun z => ?_) (S.gn b hb gb)
  exact hb (S.free z)
theorem Sep.hid (S : Sep M H0 G0 G H O) {L : List Addr} (h : ∀ a ∈ L, a ∈ O) : Same G (hideL L H) := fun b o e => by
  rw [hideL_out fun z => by
    have := (S.ow b (h b z)).1
    rw [e] at this
    cases this]
  exact S.sG b o e
end
end Vx

namespace Vx
open PySem PySem.Spec PyProof.Rows L2
/-! ### lists of plain things (f : V.int, V.bl, V.str) -/
section
variable {α : Type} {f : α → V} {H : Hp} {p : Addr}
theorem cat_map {xs ys : List α} (h : H p = some (.lst (xs.map f ++ ys.map f))) : H p = some (.lst ((xs ++ ys).map f)) := by
  rw [List.map_append]; exact h
theorem snoc_map {xs : List α} {y : α} (h : H p = some (.lst (xs.map f ++ [f y]))) : H p = some (.lst ((xs ++ [y]).map f)) := by
  rw [List.map_append]; exact h
def repL (xs : List α) (k : Int) : List α := (List.replicate k.toNat xs).flatten
theorem rep_map {xs : List α} {k : Int} (h : H p = some (.lst (List.replicate k.toNat (xs.map f)).flatten)) : H p = some (.lst ((repL xs k).map f)) := by
  rw [h]
  unfold repL
  rw [List.map_flatten, List.map_replicate]
def cutL (xs : List α) (lo hi : Option Int) : List α := (xs.drop (HT.sIx xs.length 0 lo)).take (HT.sIx xs.length xs.length hi - HT.sIx xs.length 0 lo)
theorem cut_map {xs : List α} {lo hi : Option Int} (h : H p = some (.lst (cutV (xs.map f) lo hi))) : H p = some (.lst ((cutL xs lo hi).map f)) := by
  rw [h]
  unfold cutV cutL
  rw [List.length_map, List.map_take, List.map_drop]
theorem cast_map {xs ys : List α} (h : H p = some (.lst (xs.map f))) (e : xs = ys) : H p = some (.lst (ys.map f)) := e ▸ h
theorem drop_map {xs : List α} (h : H p = some (.lst (xs.map f).dropLast)) : H p = some (.lst (xs.dropLast.map f)) := by
  rw [h, List.map_dropLast]
theorem ixN_some {n : Nat} {k : Int} (h : -(n : Int) ≤ k ∧ k < n) : ∃ j, ixN n k = some j ∧ j < n := by
  unfold ixN
  by_cases h0 : 0 ≤ k
  · exact ⟨k.toNat, by rw [if_pos h0, if_pos h.2], by omega⟩
  · exact ⟨(k + n).toNat, by rw [if_neg h0, if_pos h.1], by omega⟩
def itD [Inhabited α] (xs : List α) (k : Int) : α := (atI xs k).getD default
theorem atI_map [Inhabited α] {xs : List α} {k : Int} (h : -(xs.length : Int) ≤ k ∧ k < xs.length) : atI (xs.map f) k = some (f (itD xs k)) := by
  obtain ⟨j, e, hj⟩ := ixN_some h
  unfold itD atI
  rw [List.length_map, e]
  show (xs.map f)[j]? = some (f ((xs[j]?).getD default))
  rw [List.getElem?_map, List.getElem?_eq_getElem hj] <;> rfl
def setL (xs : List α) (k : Int) (y : α) : List α := xs.set ((ixN xs.length k).getD 0) y
theorem ixN_map {xs : List α} {k : Int} (h : -(xs.length : Int) ≤ k ∧ k < xs.length) : ixN (xs.map f).length k = some ((ixN xs.length k).getD 0) := by
  obtain ⟨j, e, hj⟩ := ixN_some h
  rw [List.length_map, e] <;> rfl
theorem set_map {xs : List α} {k : Int} {y : α} (h : H p = some (.lst ((xs.map f).set ((ixN xs.length k).getD 0) (f y)))) : H p = some (.lst ((setL xs k y).map f)) := by
  rw [h]
  unfold setL
  rw [List.map_set]
def lastD [Inhabited α] (xs : List α) : α := xs.getLastD default
theorem pop_map [Inhabited α] {xs : List α} (h : xs ≠ []) : (xs.map f)[(xs.map f).length - 1]? = some (f (lastD xs)) := by
  rw [← List.getLast?_eq_getElem?, List.getLast?_map]
  unfold lastD
  cases e : xs.getLast? with
  | none => exact absurd (List.getLast?_eq_none_iff.mp e) h
  | some y =>
    rw [List.getLastD_eq_getLast?, e] <;> rfl
end
/-! ### lists of data -/
section
variable {α β : Type} {f : α → PyData} {g : β → PyData} {G : Hp} {vs ws : List V} {xs ys : List α}
theorem app_map (a : RpAll G vs (xs.map f)) (b : RpAll G ws (ys.map f)) : RpAll G (vs ++ ws) ((xs ++ ys).map f) := by
  rw [List.map_append]; exact a.append b
theorem one_map {v : V} {y : α} (a : RpAll G vs (xs.map f)) (b : Rp G v (f y)) : RpAll G (vs ++ [v]) ((xs ++ [y]).map f) := by
  rw [List.map_append]; exact a.append (.one b)
theorem rep_all (k : Int) (a : RpAll G vs (xs.map f)) : RpAll G (List.replicate k.toNat vs).flatten ((repL xs k).map f) := by
  unfold repL
  rw [List.map_flatten, List.map_replicate]
  exact a.rep _
theorem cut_all (lo hi : Option Int) (a : RpAll G vs (xs.map f)) : RpAll G (cutV vs lo hi) ((cutL xs lo hi).map f) := by
  unfold cutV cutL
  rw [a.len, List.length_map, List.map_take, List.map_drop]
  exact (a.drop _).take _
theorem rp_cast {v : V} {d e : PyData} (r : Rp G v d) (h : d = e) : Rp G v e := h ▸ r
theorem comp_listD {i : Nat} {x : α} {y : β} {v : V} {h : α → β} (hi : xs[i]? = some x) (a : RpAll G vs (((xs.take i).map h).map g)) (r : Rp G v (g y)) (e : h x = y) : RpAll G (vs ++ [v]) (((xs.take (i + 1)).map h).map g) := by
  rw [take_succ_get hi, List.map_append, List.map_append]
  exact a.append (.one (e ▸ r))
theorem comp_rangeD {i : Nat} {y : β} {v : V} {h : Nat → β} (a : RpAll G vs (((List.range i).map h).map g)) (r : Rp G v (g y)) (e : h i = y) : RpAll G (vs ++ [v]) (((List.range (i + 1)).map h).map g) := by
  rw [List.range_succ, List.map_append, List.map_append]
  exact a.append (.one (e ▸ r))
theorem comp_doneD {n : Nat} {h : List α → List β} (hl : n = xs.length) (a : RpAll G vs ((h (xs.take n)).map g)) : RpAll G vs ((h xs).map g) := by
  rw [hl, List.take_length] at a
  exact a
theorem comp_listFD {i : Nat} {x : α} {y : β} {v : V} {h : α → β} {q : α → Bool} (hi : xs[i]? = some x) (hq : q x = true) (a : RpAll G vs ((((xs.take i).filter q).map h).map g)) (r : Rp G v (g y)) (e : h x = y) : RpAll G (vs ++ [v]) ((((xs.take (i + 1)).filter q).map h).map g) := by
  rw [take_succ_get hi, List.filter_append, List.filter_cons, if_pos hq, List.map_append, List.map_append]
  exact a.append (.one (e ▸ r))
theorem skip_listD {i : Nat} {x : α} {h : α → β} {q : α → Bool} (hi : xs[i]? = some x) (hq : q x = false) (a : RpAll G vs ((((xs.take i).filter q).map h).map g)) : RpAll G vs ((((xs.take (i + 1)).filter q).map h).map g) := by
  rw [take_succ_get hi, List.filter_append, List.filter_cons, if_neg (by rw [hq]; decide), List.filter_nil, List.append_nil]
  exact a
end
section
variable {α β : Type} {f : β → V} {H : Hp} {D : Addr} {xs : List α}
theorem compM_list {i : Nat} {x : α} {y : β} {h : α → β} (hi : xs[i]? = some x) (a : H D = some (.lst (((xs.take i).map h).map f ++ [f y]))) (e : h x = y) : H D = some (.lst (((xs.take (i + 1)).map h).map f)) := by
  rw [a, ← e, take_succ_get hi, List.map_append, List.map_append] <;> rfl
theorem compM_range {i : Nat} {y : β} {h : Nat → β} (a : H D = some (.lst (((List.range i).map h).map f ++ [f y]))) (e : h i = y) : H D = some (.lst (((List.range (i + 1)).map h).map f)) := by
  rw [a, ← e, List.range_succ, List.map_append, List.map_append] <;> rfl
theorem compM_done {n : Nat} {h : List α → List β} (hl : n = xs.length) (a : H D = some (.lst ((h (xs.take n)).map f))) : H D = some (.lst ((h xs).map f)) := by
  rw [hl, List.take_length] at a
  exact a
theorem compM_listF {i : Nat} {x : α} {y : β} {h : α → β} {q : α → Bool} (hi : xs[i]? = some x) (hq : q x = true) (a : H D = some (.lst ((((xs.take i).filter q).map h).map f ++ [f y]))) (e : h x = y) : H D = some (.lst ((((xs.take (i + 1)).filter q).map h).map f)) := by
  rw [a, ← e, take_succ_get hi, List.filter_append, List.filter_cons, if_pos hq, List.map_append, List.map_append] <;> rfl
theorem skipM_list {i : Nat} {x : α} {h : α → β} {q : α → Bool} (hi : xs[i]? = some x) (hq : q x = false) (a : H D = some (.lst ((((xs.take i).filter q).map h).map f))) : H D = some (.lst ((((xs.take (i + 1)).filter q).map h).map f)) := by
  rw [a, take_succ_get hi, List.filter_append, List.filter_cons, if_neg (by rw [hq]; decide), List.filter_nil, List.append_nil]
theorem compM_rangeF {i : Nat} {y : β} {h : Nat → β} {q : Nat → Bool} (hq : q i = true) (a : H D = some (.lst ((((List.range i).filter q).map h).map f ++ [f y]))) (e : h i = y) : H D = some (.lst ((((List.range (i + 1)).filter q).map h).map f)) := by
  rw [a, ← e, List.range_succ, List.filter_append, List.filter_cons, if_pos hq, List.map_append, List.map_append] <;> rfl
theorem skipM_range {i : Nat} {h : Nat → β} {q : Nat → Bool} (hq : q i = false) (a : H D = some (.lst ((((List.range i).filter q).map h).map f))) : H D = some (.lst ((((List.range (i + 1)).filter q).map h).map f)) := by
  rw [a, List.range_succ, List.filter_append, List.filter_cons, if_neg (by rw [hq]; decide), List.filter_nil, List.append_nil]
end
/-! ### more rules -/
section
variable {X : Cx} {K : PySem.W.Frag}
theorem ix_tupK (hK : X.K = K := by rfl) : IxR X (rIxT K) := hK ▸ ix_tup
def rLenLK (K : PySem.W.Frag) : List V → Hp → VK → Prop := fun xs H Q => ∃ (p : Addr) (vs : List V) (n : Nat), xs = [.ref p] ∧ SqL K H p vs ∧ vs.length = n ∧ Q (.int (n : Int)) H
theorem call_lenLK (hK : X.K = K := by rfl) : CallR X (.builtin "len") (rLenLK K) := by
  subst hK
  intro pins s σ H xs us Q I r h
  obtain ⟨p, vs, n, rfl, hs, hn, q⟩ := h
  exact call_len_seq pins s σ H _ us Q I r ⟨p, _, rfl, Or.inl hs, by rw [hn]; exact q⟩
def rListLK (K : PySem.W.Frag) : List V → Hp → VK → Prop := fun xs H Q => ∃ (p : Addr) (vs : List V), xs = [.ref p] ∧ SqL K H p vs ∧ ∀ l, H l = none → Q (.ref l) (upd H l (.lst vs))
theorem call_listLK (hK : X.K = K := by rfl) : CallR X (.type "list") (rListLK K) := by
  subst hK
  intro pins s σ H xs us Q I r h
  obtain ⟨p, vs, rfl, hs, q⟩ := h
  exact call_list_of pins s σ H _ us Q I r ⟨p, _, rfl, Or.inl hs, q⟩
theorem cr_anyK (hc : X.calm = true) (hK : X.K = K := by rfl) : CallR X (.builtin "any") (rAny K) := hK ▸ cr_any hc
theorem cr_allK (hc : X.calm = true) (hK : X.K = K := by rfl) : CallR X (.builtin "all") (rAll K) := hK ▸ cr_all hc
theorem pi_tupK {tg l : Expr} {tl : TE} (hl : PE X l tl) (hK : X.K = K := by rfl) : PI X tg l (iTup K tl) := hK ▸ pi_tup hl
theorem pip {op : Operator} {r : R2} (h : OpR X (inplaceOp op) r) : PIp X op r := fun pins s σ H x y v u Q I rx ry q => h pins s σ H x y v u Q I rx ry q
/-- an item at a place from 0 on, by itself (ahead of o[i] op= e) -/
def rIxP (K : PySem.W.Frag) : R2 := fun x y H Q => ∃ (p : Addr) (xs : List V) (k : Int) (v : V), x = .ref p ∧ y = .int k ∧ SqL K H p xs ∧ 0 ≤ k ∧ k < 2 ^ 62 ∧ atI xs k = some v ∧ Q v H
theorem pget_list (hK : X.K = K := by rfl) : PGet X (rIxP K) := by
  subst hK
  intro pins s σ H o i ov iv Q I ro ri h
  obtain ⟨p, xs, k, v, rfl, rfl, hq, h0, h62, ha, q⟩ := h
  cases ro
  obtain ⟨t, rfl⟩ := ri
  obtain ⟨its, r, pl, hz⟩ := I.list hq
  obtain ⟨j, h1, h2, h3, h4, h5⟩ := atI_get ha
  obtain ⟨w, ew, rw'⟩ := r.get h2
  have hj : k.toNat = j := by
    rw [seqIndex_of h0 h5] at h1
    exact Option.some.inj h1
  exact getItem_listL pl.isList h0 (by omega) (by rw [hj]; simpa using ew) ⟨v, H, I, rw', q⟩
theorem tru_map {α : Type} [DecidableEq α] {f : α → V} {xs : List α} : (!decide (xs = [])) = !(xs.map f).isEmpty := by
  cases xs <;> simp
end
end Vx

namespace Vx
open PySem PySem.Spec PyProof.Rows L2
/-! ### objects -/
section
variable {M : List Addr} {H0 G0 G H H' : Hp} {O : List Addr} {p m : Addr} {o : HO}
theorem gen_obj {x dx : Addr} {o1 o2 : HO} (nx : H x = none) (nd : H dx = none) (ne : dx ≠ x) (h : upd (upd H dx o1) x o2 = H') : Same H H' ∧ H' x = some o2 := by
  subst h
  exact ⟨fun b u e => by rw [upd_ne (ne_of_none e nx), upd_ne (ne_of_none e nd)]; exact e, upd_same⟩
theorem sameX_of {m : Addr} (x : SameXs [m] H H') : SameX m H H' := fun b o e n => x b o e (by simpa using n)
theorem g_ne {a b : Addr} (h : G a = some o) (S : Sep M H0 G0 G H O) (hb : b ∈ O) : a ≠ b := fun z => by
  have := (S.ow b hb).1
  rw [← z, h] at this
  cases this
/-- an object whose making has laid some lists -/
theorem Sep.mutnew (S : Sep M H0 G0 G H O) {L : List Addr} (x : SameXs L H H') (hL : ∀ a ∈ L, a ∈ O) (hs : ∀ a ∈ L, H' a ≠ none) (hn : H p = none) (hp : H' p ≠ none) (h0 : H0 p = none) : Sep M H0 G0 G H' (p :: O) := by
  have S1 := S.mut x hL hs
  refine ⟨S1.base, S1.pm, S1.sG, S1.g0, S1.gn, all_cons ⟨S.gfree hn, hp, .inr h0⟩ S1.ow⟩
theorem Sep.init (S : Sep M H0 G0 G H O) (x : SameX m H H') (hm : m ∈ O) (h : H' m = some o) (L : List Addr) (hL : ∀ a ∈ L, H a = none ∧ H' a ≠ none ∧ H0 a = none) : Sep M H0 G0 G H' (L ++ O) := by
  have S1 := S.mut1 x hm h
  refine ⟨S1.base, S1.pm, S1.sG, S1.g0, S1.gn, fun a ha => ?_⟩
  rcases List.mem_append.mp ha with z | z
  · obtain ⟨h1, h2, h3⟩ := hL a z
    exact ⟨S.gfree h1, h2, .inr h3⟩
  · exact S1.ow a z
end
section
variable {P : Program} {w : World} {K : PySem.W.Frag} {mg : Str → Option Value} {base : Heap}
structure MethIn (K : PySem.W.Frag) (C : Addr) (q m : Str) (st : Stmt) (ps : List Str) : Prop where
  ex : ∃ (f : Addr) (fd : FuncData), Fun K m q st f fd ∧ Meth K C m f ∧ Binds K fd ps []
structure PropIn (K : PySem.W.Frag) (C : Addr) (q m : Str) (st : Stmt) (ps : List Str) : Prop where
  ex : ∃ (r f : Addr) (fd : FuncData), Fun K m q st f fd ∧ PropOf K C m r f ∧ Binds K fd ps []
structure InitIn (K : PySem.W.Frag) (mg : Str → Option Value) (C : Addr) (cn q : Str) (st : Stmt) (ps : List Str) : Prop where
  ex : ∃ (f : Addr) (fd : FuncData), Fun K "__init__" q st f fd ∧ Mk K C f ∧ mg cn = some (.ref C) ∧ Binds K fd ps []
structure MetC (P : Program) (w : World) (K : PySem.W.Frag) (mg : Str → Option Value) (base : Heap) (k : Nat) (C : Addr) (m : Str) (sp : Sp) : Prop where
  ex : ∃ (f : Addr) (fd : FuncData) (ps : List Str), Cls K C ∧ Meth K C m f ∧ FnOk P w K mg base CX0 k f fd ps sp ∧ Binds K fd ps []
structure PropC (P : Program) (w : World) (K : PySem.W.Frag) (mg : Str → Option Value) (base : Heap) (k : Nat) (C : Addr) (m : Str) (sp : Sp) : Prop where
  ex : ∃ (q f : Addr) (fd : FuncData) (ps : List Str), Cls K C ∧ PropOf K C m q f ∧ FnOk P w K mg base CX0 k f fd ps sp ∧ Binds K fd ps []
structure MakC (P : Program) (w : World) (K : PySem.W.Frag) (mg : Str → Option Value) (base : Heap) (k : Nat) (cn : Str) (C : Addr) (sp : Sp) : Prop where
  ex : ∃ (f : Addr) (fd : FuncData) (ps : List Str), Mk K C f ∧ FnOk P w K mg base CX0 k f fd ps sp ∧ mg cn = some (.ref C) ∧ Binds K fd ps []
abbrev Body (P : Program) (w : World) (K : PySem.W.Frag) (mg : Str → Option Value) (base : Heap) (x : Str) (st : Stmt) (N : List Str) (k : Nat) (sp : Sp) : Prop :=
  ∀ (f : Addr) (cdv : Value) (A : Around) (outer : List Env) (s : Shared) (H : Hp) (vs : List V) (Q : VK) (E : XK), Room k (A.deeper (envOfC x (defScope st) s.heap.objs.size f cdv)) → sp vs H Q E →
    ∃ t, PSs (cxOf CX0 P w K mg base N x (defScope st) f cdv A outer s H E).nox (defBody st) t ∧ t { nx := fun _ H' => Q .non H', rt := Q } (start N vs) H
theorem MethIn.ok {C : Addr} {q m : Str} {st : Stmt} {N ps : List Str} {k : Nat} {sp : Sp} (D : MethIn K C q m st ps) (c : Cls K C) (S : FnScope N ps (defScope st)) (len : ∀ vs H Q E, sp vs H Q E → vs.length = ps.length)
    (hbody : Body P w K mg base q st N k sp) : MetC P w K mg base (k + 1) C m sp := by
  obtain ⟨f, fd, F, me, b⟩ := D.ex
  exact ⟨f, fd, ps, c, me, F.ok S len (fun cdv A outer s H vs Q E hr h => hbody f cdv A outer s H vs Q E hr h), b⟩
theorem PropIn.ok {C : Addr} {q m : Str} {st : Stmt} {N ps : List Str} {k : Nat} {sp : Sp} (D : PropIn K C q m st ps) (c : Cls K C) (S : FnScope N ps (defScope st)) (len : ∀ vs H Q E, sp vs H Q E → vs.length = ps.length)
    (hbody : Body P w K mg base q st N k sp) : PropC P w K mg base (k + 1) C m sp := by
  obtain ⟨r, f, fd, F, me, b⟩ := D.ex
  exact ⟨r, f, fd, ps, c, me, F.ok S len (fun cdv A outer s H vs Q E hr h => hbody f cdv A outer s H vs Q E hr h), b⟩
theorem InitIn.ok {C : Addr} {cn q : Str} {st : Stmt} {N ps : List Str} {k : Nat} {sp : Sp} (D : InitIn K mg C cn q st ps) (S : FnScope N ps (defScope st)) (len : ∀ vs H Q E, sp vs H Q E → vs.length = ps.length)
    (hbody : Body P w K mg base q st N k sp) : MakC P w K mg base (k + 1) cn C sp := by
  obtain ⟨f, fd, F, me, hm, b⟩ := D.ex
  exact ⟨f, fd, ps, me, F.ok S len (fun cdv A outer s H vs Q E hr h => hbody f cdv A outer s H vs Q E hr h), hm, b⟩
end
section
variable {X : Cx} {k j : Nat} {C : Addr} {x m : Str} {sp : Sp} {p pos apos : Pos} {e o : Expr} {es : List Expr} {ta : TE} {t : TA}
theorem vx_call0 (c : Cal X.prog X.w X.K X.mg X.base k x sp) (hr : Room j X.A) (hk : k ≤ j) (hg : Gl X x) (hdb : (x == ("__debug__" : Str)) = false := by decide) : PE X (.Call (.Name x p) [] [] pos) (tCall sp [] E0 tNil) := by
  obtain ⟨f, fd, ps, F, hm, kp, b⟩ := c.ex
  exact pe_call0 F (hr.mono hk) hg hm kp b .nil pass0 hdb
theorem vx_make (c : MakC X.prog X.w X.K X.mg X.base k x C sp) (hr : Room j X.A) (hk : k + 1 ≤ j) (hg : Gl X x) (ha : PA X (e :: es) t)
    (hdb : (x == ("__debug__" : Str)) = false := by decide) (he : starEach (e :: es) X.env = (false, eval e X.env) :: starEach es X.env := by rfl) (hpl : (backTo pos (starEach es X.env)).any (·.1) = false := by rfl) :
    PE X (.Call (.Name x p) (e :: es) [] pos) (tMake C sp [] E0 t) := by
  obtain ⟨f, fd, ps, M, F, hm, b⟩ := c.ex
  exact pe_make M F (hr.mono hk) hg hm b .nil pass0 ha hdb he hpl
theorem vx_make0 (c : MakC X.prog X.w X.K X.mg X.base k x C sp) (hr : Room j X.A) (hk : k + 1 ≤ j) (hg : Gl X x) (hdb : (x == ("__debug__" : Str)) = false := by decide) :
    PE X (.Call (.Name x p) [] [] pos) (tMake C sp [] E0 tNil) := by
  obtain ⟨f, fd, ps, M, F, hm, b⟩ := c.ex
  exact pe_make0 M F (hr.mono hk) hg hm b .nil pass0 hdb
theorem vx_meth {pl : Sem Bool} (c : MetC X.prog X.w X.K X.mg X.base k C m sp) (hr : Room j X.A) (hk : k ≤ j) (he : PE X o ta) (ha : PA X (e :: es) t)
    (hst : starEach (e :: es) X.env = (false, eval e X.env) :: starEach es X.env := by rfl) (hpl : (backTo pos (starEach es X.env)).any (·.1) = false := by rfl)
    (ht : eval (.Call (.Attribute o m apos) (e :: es) [] pos) X.env = (do
      let ov ← eval o X.env
      standAt apos.atName
      let (f, first) ← holding [ov] (getMethod ov m pl)
      callWith pos f first (backTo pos (starEach (e :: es) X.env)) (backToKw pos (keywordEach [] X.env))) := by rfl) :
    PE X (.Call (.Attribute o m apos) (e :: es) [] pos) (tMeth C m sp [] E0 ta t) := by
  obtain ⟨f, fd, ps, hc, hm, F, b⟩ := c.ex
  exact pe_meth he hc hm F (hr.mono hk) b .nil pass0 ha hst hpl ht
theorem vx_meth0 {pl : Sem Bool} (c : MetC X.prog X.w X.K X.mg X.base k C m sp) (hr : Room j X.A) (hk : k ≤ j) (he : PE X o ta)
    (ht : eval (.Call (.Attribute o m apos) [] [] pos) X.env = (do
      let ov ← eval o X.env
      standAt apos.atName
      let (f, first) ← holding [ov] (getMethod ov m pl)
      callWith pos f first (backTo pos (starEach [] X.env)) (backToKw pos (keywordEach [] X.env))) := by rfl) :
    PE X (.Call (.Attribute o m apos) [] [] pos) (tMeth C m sp [] E0 ta tNil) := by
  obtain ⟨f, fd, ps, hc, hm, F, b⟩ := c.ex
  exact pe_meth0 he hc hm F (hr.mono hk) b .nil pass0 ht
theorem vx_prop (c : PropC X.prog X.w X.K X.mg X.base k C m sp) (hr : Room j X.A) (hk : k + 1 ≤ j) (he : PE X o ta) (hab : attributeBase o m X.env (eval o X.env) = eval o X.env) : PE X (.Attribute o m pos) (tProp C sp [] E0 ta) := by
  obtain ⟨q, f, fd, ps, hc, hp, F, b⟩ := c.ex
  exact pe_prop he hc hp F (hr.mono hk) b .nil pass0 hab
end
theorem iteBNT {b : Bool} {A B : Prop} (h : b = false) (k : A) : if (!b) = true then A else B := by rw [h]; exact iteT k
theorem iteNN {b : Bool} {A B : Prop} (h : if b = true then A else B) : if (!!b) = true then A else B := by rw [Bool.not_not]; exact h
theorem iteBNF {b : Bool} {A B : Prop} (h : b = true) (k : B) : if (!b) = true then A else B := by rw [h]; exact iteF k
theorem shl_side {i j : Int} (h0 : 0 ≤ j) (h1 : j ≤ 4096) (h2 : -(2 ^ 4096) < i) (h3 : i < 2 ^ 4096) : CShl i j := by
  obtain ⟨k, rfl⟩ := Int.eq_ofNat_of_zero_le h0
  exact shl_ok (n := 4096) (by omega) (by omega)
end Vx

namespace Vx
open PySem PySem.Spec PyProof.Rows L2
section
variable {X : Cx} {K : PySem.W.Frag}
theorem fldK {e : Expr} {f : Str} {pos : Pos} {ta : TE} (he : PE X e ta) (hb : attributeBase e f X.env (eval e X.env) = eval e X.env := by rfl) (hK : X.K = K := by rfl) : PE X (.Attribute e f pos) (tFld K ta f) := hK ▸ pe_fld he hb
theorem pg_tupK {es : List Expr} {k : Nat} {t : TGs} {n : Nat} {pos : Pos} (h : PGs X es t) (hc : X.calm = true := by rfl)
    (hn : (assignEach es X.env).length = n := by rfl) (hst : (assignEach es X.env).findIdx? (·.1) = none := by rfl) (hK : X.K = K := by rfl) : PG X (.Tuple es k pos) (gTup K n t) := hK ▸ pg_tup hc h hn hst
end
end Vx

namespace Vx
open PySem PySem.Spec PyProof.Rows L2
section
variable {α β : Type} {f : α → PyData} {g : β → PyData} {fv : α → V} {gv : β → V} {G : Hp} {vs ws : List V} {xs : List α} {ys : List β}
theorem big1 {n : Nat} (h : n ≤ 1000000) : n ≤ sizeLine := smallE h
theorem cat_len (a : RpAll G vs (xs.map f)) (b : RpAll G ws (ys.map g)) (h : xs.length + ys.length ≤ 1000000) : vs.length + ws.length ≤ sizeLine := by
  rw [a.len, b.len, List.length_map, List.length_map]; exact smallE h
theorem cat_lenM (h : xs.length + ys.length ≤ 1000000) : (xs.map fv).length + (ys.map gv).length ≤ sizeLine := by
  rw [List.length_map, List.length_map]; exact smallE h
theorem rep_len {k : Nat} (a : RpAll G vs (xs.map f)) (h : xs.length * k ≤ 1000000) : vs.length * k ≤ sizeLine := by
  rw [a.len, List.length_map]; exact smallE h
theorem rep_lenM {k : Nat} (h : xs.length * k ≤ 1000000) : (xs.map fv).length * k ≤ sizeLine := by
  rw [List.length_map]; exact smallE h
theorem app_len (a : RpAll G vs (xs.map f)) (h : xs.length ≤ 1000000) : vs.length < sizeLine := by
  rw [a.len, List.length_map]; exact small h
theorem app_lenM (h : xs.length ≤ 1000000) : (xs.map fv).length < sizeLine := by
  rw [List.length_map]; exact small h
theorem cutL_len {α : Type} (xs : List α) (lo hi : Option Int) : (cutL xs lo hi).length ≤ xs.length := by
  unfold cutL
  rw [List.length_take, List.length_drop]
  omega
theorem repL_len {α : Type} (xs : List α) (k : Int) : (repL xs k).length = k.toNat * xs.length := by
  unfold repL
  simp
end
end Vx
/-! # promises of defs that know that nothing is being shown (so that repr may be called) -/
namespace Vx
open PySem PySem.Spec PyProof.Rows L2
structure RoomG (k : Nat) (A : Around) : Prop extends Room k A where
  gd : A.guards = some []
theorem RoomG.low {j k : Nat} {A : Around} (r : RoomG k A) (h : j ≤ k) : RoomG j A := ⟨r.toRoom.mono h, r.gd⟩
theorem RoomG.one {k : Nat} {A : Around} (r : RoomG (k + 1) A) : RoomG k A.in1 := ⟨r.toRoom.in1, r.gd⟩
theorem make_gd {A : Around} (C : Addr) (us : List Value) (kw : List (Str × Value)) (h : A.guards = some []) : (A.under (.builtin "type.__call__" ⟨.ref C :: us, kw⟩)).guards = some [] := by
  obtain ⟨hd, d, fr, gs, u⟩ := A
  subst h
  simp [Around.under, Code.guards, Code.isGuard, guardIds, pushGuards]
theorem RoomG.made {k : Nat} {A : Around} (r : RoomG (k + 1) A) (C : Addr) (us : List Value) (kw : List (Str × Value)) : RoomG k (A.under (.builtin "type.__call__" ⟨.ref C :: us, kw⟩)) := ⟨r.toRoom.make C us kw, make_gd C us kw r.gd⟩
structure FnG (P : Program) (w : World) (K : PySem.W.Frag) (mg : Str → Option Value) (base : Heap) (cx : CXT) (k : Nat) (f : Addr) (fd : FuncData) (ps : List Str) (sp : Sp) : Prop where
  len : ∀ vs H Q E, sp vs H Q E → vs.length = ps.length
  run : ∀ (A : Around) (outer : List Env) (s : Shared) (H : Hp) (args : Args) (us : List Value) (vs : List V) (Q : VK) (E : XK), RoomG k A → Env0 P w K mg base A outer s H → BindsTo s fd args (ps.zip us) → Vals vs us → sp vs H Q E → codeAny (model P w) A (.call (.ref f) args) (CR cx outer P w H s Q E) s
section
variable {P : Program} {w : World} {K : PySem.W.Frag} {mg : Str → Option Value} {base : Heap} {cx : CXT} {j k : Nat} {f : Addr} {fd : FuncData} {ps : List Str} {sp sp' : Sp}
theorem FnG.imp (F : FnG P w K mg base cx k f fd ps sp) (h : ∀ vs H Q E, sp' vs H Q E → sp vs H Q E) : FnG P w K mg base cx k f fd ps sp' := ⟨fun vs H Q E q => F.len vs H Q E (h vs H Q E q), fun A o s H a us vs Q E r e b v q => F.run A o s H a us vs Q E r e b v (h vs H Q E q)⟩
/-- the body's promise is the def's -/
theorem FnG.body {x qual : Str} {params : Arguments} {body : List Stmt} {scope : Scope} {dvs : List V} {kws : List (Str × V)} {N : List Str} (F : FunD K x qual params body scope dvs kws f fd) (S : FnScope N ps scope) (len : ∀ vs H Q E, sp vs H Q E → vs.length = ps.length)
    (hb : ∀ (cdv : Value) (A : Around) (outer : List Env) (s : Shared) (H : Hp) (vs : List V) (Q : VK) (E : XK), RoomG k (A.deeper (envOfC qual scope s.heap.objs.size f cdv)) → sp vs H Q E →
      ∃ t, PSs (cxOf cx P w K mg base N qual scope f cdv A outer s H E) body t ∧ t { nx := fun _ H' => Q .non H', rt := Q } (start N vs) H) : FnG P w K mg base cx (k + 1) f fd ps sp := by
  obtain ⟨oc, od, dV, kV, doc, pm, an, cdv, ct, osl, rfl, lk, code, _, _⟩ := F.ex
  constructor
  · exact len
  · intro A outer s H args us vs Q E room env binds vals prom
    have nvs := len vs H Q E prom
    have kin : K.In s.heap := env.mod.kin.keeps fun b o q => (env.bs b o q).1
    have nolim : s.heap.NoLimit := env.mod.nolimit.keeps fun b o q => (env.bs b o q).1
    have kinds : ∀ q ∈ ps.zip us, scope.names.lookup q.1 = some .local ∨ (scope.names.lookup q.1 = some .cell ∧ ((cellsFrom (s.heap.objs.size + 1) scope.names []).lookup q.1).isSome = true) := by
      rintro ⟨n, v⟩ hq
      cases S.par n (List.of_mem_zip hq).1 with
      | inl z => exact .inl z
      | inr z => exact .inr ⟨z, PySem.W.cellsFrom_some _ _ _ (.inl z)⟩
    refine codeAny_call_function room.toRoom.depth (kin _ _ lk) rfl S.co S.gen rfl (PySem.W.codeRec_of kin code) (binds _ _ _ _ ?_)
    refine wpAny_newFunctionEnv_cells S.kind kinds ?_
    rintro _ rfl s1 made
    refine ⟨nolim.keeps made.toInCall.keep, codeAny_func ?_⟩
    obtain ⟨t, pss, start_⟩ := hb cdv A outer s H vs Q E ⟨room.toRoom.deeper _, room.gd⟩ prom
    have inv := inv_start (CX := cx) (E := E) S room.hd env nvs vals made
    have close : ∀ {τ : L2.St} {H2 : Hp} {v : V} {u : Value} {s2 : Shared}, Inv (cxOf cx P w K mg base N qual scope f cdv A outer s H E) [] τ H2 s2 → RelV v u → Q v H2 → CE outer P w H s Q u s2 := fun inv2 rel q => ⟨_, _, inv2.os, inv2.bare, inv2.base, inv2.hok, rel, q⟩
    refine wpAny_mono (pss.run [] s1 (start N vs) H _ inv start_) ?_ fun _ _ z => z
    intro flow s2 out
    cases flow with
    | next =>
      obtain ⟨τ, H2, inv2, q⟩ := out
      exact close (v := .non) (u := .none) inv2 rfl q
    | ret u =>
      obtain ⟨v, τ, H2, inv2, rel, q⟩ := out
      exact close inv2 rel q
    | brk =>
      obtain ⟨_, _, _, q⟩ := out
      exact q.elim
    | cont =>
      obtain ⟨_, _, _, q⟩ := out
      exact q.elim
/-- the same of a body that nothing leaves -/
theorem FnG.bodyN {x qual : Str} {params : Arguments} {body : List Stmt} {scope : Scope} {dvs : List V} {kws : List (Str × V)} {N : List Str} (F : FunD K x qual params body scope dvs kws f fd) (S : FnScope N ps scope) (len : ∀ vs H Q E, sp vs H Q E → vs.length = ps.length)
    (hb : ∀ (cdv : Value) (A : Around) (outer : List Env) (s : Shared) (H : Hp) (vs : List V) (Q : VK) (E : XK), RoomG k (A.deeper (envOfC qual scope s.heap.objs.size f cdv)) → sp vs H Q E →
      ∃ t, PSs (cxOf CX0 P w K mg base N qual scope f cdv A outer s H E).nox body t ∧ t { nx := fun _ H' => Q .non H', rt := Q } (start N vs) H) : FnG P w K mg base CX0 (k + 1) f fd ps sp :=
  FnG.body F S len fun cdv A outer s H vs Q E r p => by
    obtain ⟨t, h, q⟩ := hb cdv A outer s H vs Q E r p
    exact ⟨t, h.nox, q⟩
end
/-- where a law's call begins: an abstract heap that tells the script at most -/
theorem law_start {P : Program} {w : World} {K : PySem.W.Frag} {mg mb : Str → Option Value} {a : Addr} {s : Shared} {vs : List Value} {ns : List Int} (kin : K.In s.heap) (top : s.heap.Ns mainGlobals mg) (blt : s.heap.Ns builtinsNs mb) (boot : ∀ y : Str, y ≠ "__name__" → mb y = bootBuiltins y)
    (lim : s.heap.NoLimit) (gens : s.gens = #[]) (script : s.heap.get? a = some { cls := .type "list", data := .seq vs.toArray }) (whole : IntsAre vs ns) (short : ns.length ≤ sizeLine) :
    ∃ (H : Hp) (base : Heap), SqL K H a (ns.map V.int) ∧ K.In base ∧ base.Ns mainGlobals mg ∧ Env0 P w K mg base callerA [] s H ∧
      ∀ (Z : V → Prop) (u : Value) (s2 : Shared), CE [] P w H s (fun v _ => Z v) u s2 → (∃ v, RelV v u ∧ Z v) ∧ OldK s.heap s2.heap ∧ s2.os = s.os ∧ AllBare s2.gens := by
  have rel := vals_ints whole
  have lenV := whole.length
  -- any H that tells no more than the script, and that only where the written part does not hold it, will do
  have fits : ∀ H : Hp, (∀ b, H b = none ∨ ∃ o xs, H b = some (.frz o (.lst xs))) → SqL K H a (ns.map V.int) → HOk P w H s.heap → (∀ b, b ≠ a → H b = none) → (∀ o, K.lookup a = some o → H a = none) →
      ∃ (H : Hp) (base : Heap), SqL K H a (ns.map V.int) ∧ K.In base ∧ base.Ns mainGlobals mg ∧ Env0 P w K mg base callerA [] s H ∧
        ∀ (Z : V → Prop) (u : Value) (s2 : Shared), CE [] P w H s (fun v _ => Z v) u s2 → (∃ v, RelV v u ∧ Z v) ∧ OldK s.heap s2.heap ∧ s2.os = s.os ∧ AllBare s2.gens := by
    intro H only seq ok else_ apart
    have dictFree : ∀ (b : Addr) (o : Obj) (es : Array DictEntry) (n : Nat), s.heap.get? b = some o → o.data = .dict es n → H b = none := by
      intro b o es n e d
      by_cases z : b = a
      · subst z
        rw [script] at e
        injection e with e
        subst e
        cases d
      · exact else_ b z
    have nsOf : ∀ {b : Addr} {m : Str → Option Value}, s.heap.Ns b m → (hidT s.heap H).Ns b m := by
      rintro b m ⟨o, es, n, e, d, r⟩
      exact ⟨o, es, n, hidT_get e (dictFree b o es n e d), d, r⟩
    have kinB : K.In (hidT s.heap H) := by
      intro b o e
      refine hidT_get (kin b o e) ?_
      by_cases z : b = a
      · subst z
        exact apart o e
      · exact else_ b z
    obtain ⟨mc, lim1, lim2⟩ := lim
    refine ⟨H, hidT s.heap H, seq, kinB, nsOf top, ⟨rfl, ⟨kinB, nsOf top, ⟨mb, nsOf blt, boot⟩, mc, nsOf lim1, lim2⟩, fun b o e => of_hidT e, Nat.le_of_eq (hidT_size _ _), trivial, fun b hb => (nomatch (show b ∈ ([] : List Addr) from hb)), ok, .of_eq gens⟩, ?_⟩
    rintro Z u s2 ⟨v, H2, os, bare, un, ok2, r, z⟩
    refine ⟨⟨v, r, z⟩, OldK.of_keep fun b o e => ?_, os, bare⟩
    rcases only b with n | ⟨o1, xs, n⟩
    · exact un.keep b o e n (fun y => nomatch (show b ∈ ([] : List Addr) from y)) (fun y => nomatch y)
    · obtain ⟨e1, _⟩ := ok b _ n
      obtain ⟨e2, _⟩ := ok2 b _ (un.frzs b o1 _ n)
      rw [e] at e1
      injection e1 with e1
      subst e1
      exact e2
  cases kl : K.lookup a with
  | some o =>
    have e := kin a o kl
    rw [script] at e
    injection e with e
    subst e
    exact fits (fun _ => none) (fun _ => .inl rfl) (.inr ⟨_, vs.toArray, _, kl, rfl, rfl, rfl, by rw [List.size_toArray, lenV]; exact short, by simpa using rel⟩) (fun _ _ z => nomatch z) (fun _ _ => rfl) fun _ _ => rfl
  | none =>
    refine fits (fun b => if b = a then some (.frz { cls := .type "list", data := .seq vs.toArray } (.lst (ns.map V.int))) else none) ?_ (.inl (.inr ⟨_, if_pos rfl⟩)) ?_ (fun b n => if_neg n) fun o z => ?_
    · intro b
      by_cases z : b = a
      · exact .inr ⟨_, _, if_pos z⟩
      · exact .inl (if_neg z)
    · intro b u q
      by_cases z : b = a
      · subst z
        have q := (if_pos rfl).symm.trans q
        injection q with q
        subst q
        exact ⟨script, by rw [List.length_map]; exact short, vs, _, rel, script⟩
      · have q := (if_neg z).symm.trans q
        cases q
    · rw [kl] at z
      cases z
/-- the goal that the head leaves, from the law's promise; the script's numbers have at most 2 ^ 20 bits -/
theorem walkG {l : PySem.W.OpenLaw} {n k : Nat} {q : Program} {loose : List Str} {XP : (Str → Option Value) → Heap → Prop} {YP : World → Heap → Prop} {d : DefRec} {K : Params → PySem.W.Frag} {x : Str} (hn : l.most = some n) (hn2 : n ≤ sizeLine) (hdf : d.params.defaults = []) (room : Room k callerA)
    (hY : ∀ (w : World) (h : Heap), YP w h → (K w.params).In h)
    (F : ∀ (w : World) (mg : Str → Option Value) (fa : Addr) (h : Heap), (K w.params).In h → h.Ns mainGlobals mg → mg d.name = some (.ref fa) →
      ∃ fd : FuncData, (∀ (s : Shared) (u : Value), BindsTo s fd ⟨[u], []⟩ [(x, u)]) ∧ ∀ base : Heap, (K w.params).In base → base.Ns mainGlobals mg → FnG l.prog w (K w.params) mg base CX0 k fa fd [x] (fun vs H Q _ => ∃ (a : Addr) (ns : List Int), vs = [.ref a] ∧ SqL (K w.params) H a (ns.map V.int) ∧ ns.length ≤ n ∧ ∀ H', Q (.bl true) H')) :
    PySem.W.WalkO q loose XP YP l.row.toRowW d [] (fun f vs => PySem.call f vs) := by
  refine Att.attach_call hn hdf ?_
  intro w s₀ s₁ mg mb fa o pm cd doc a vs ns G Y _ _ _ hmg script whole short gens
  have kin := hY w _ Y
  obtain ⟨fd, bind, prom⟩ := F w mg fa _ kin G.T.g hmg
  obtain ⟨H, base, seq, kinB, nsB, env, fin⟩ := law_start (P := l.prog) (w := w) kin G.T.g G.T.b G.T.builtins G.T.nolimit gens script whole (Nat.le_trans short hn2)
  refine codeAny_mono ((prom base kinB nsB).run callerA [] s₁ H ⟨[.ref a], []⟩ [.ref a] [.ref a] (fun v _ => v = .bl true) (fun _ _ _ => False) ⟨room, rfl⟩ env (bind s₁ (.ref a)) (.cons rfl .nil) ⟨a, ns, rfl, seq, short, fun _ => rfl⟩) ?_
  intro r s2 out
  cases r with
  | error e => exact out.elim
  | ok flow =>
    cases flow with
    | ret u =>
      obtain ⟨⟨v, rv, z⟩, h1, h2, h3⟩ := fin (fun v => v = .bl true) u s2 out
      subst z
      obtain rfl : u = Value.bool true := rv
      exact ⟨rfl, h1, h2, h3⟩
    | next => exact out.elim
    | brk => exact out.elim
    | cont => exact out.elim
end Vx
/-! # third part: what a def computes, as a plain function with refusals -/
namespace Vx
open PySem PySem.Spec PyProof.Rows L2
inductive Rx (α : Type) where
  | ok (a : α)
  | er (e : Nat)
  | bad
def Rx.bind {α β : Type} (m : Rx α) (f : α → Rx β) : Rx β :=
  match m with
  | .ok a => f a
  | .er e => .er e
  | .bad => .bad
/-- what is wanted of an outcome -/
@[irreducible] def cW {α : Type} (m : Rx α) (K : α → Prop) (E : Nat → Prop) : Prop :=
  match m with
  | .ok a => K a
  | .er e => E e
  | .bad => False
def grd {α : Type} (p : Prop) [Decidable p] (m : Rx α) : Rx α := if p then m else .bad
/-- within a comprehension nothing may be raised -/
def noEr {α : Type} (m : Rx α) : Rx α :=
  match m with
  | .ok a => .ok a
  | _ => .bad
/-- what the clause does not name may not come -/
def tryR {α β : Type} (m : Rx α) (cs : List Nat) (f : α → Rx β) (h : Nat → Rx β) : Rx β :=
  match m with
  | .ok a => f a
  | .er e => if e ∈ cs then h e else .bad
  | .bad => .bad
def bnd {α β : Type} (a : α) (f : α → Rx β) : Rx β := f a
inductive Lp (σ ρ : Type) where
  | go (s : σ)
  | bk (s : σ)
  | rt (r : ρ)
def Lp.aft {σ ρ τ : Type} (l : Lp σ ρ) (kr : ρ → Rx τ) (k : σ → Rx τ) : Rx τ :=
  match l with
  | .go s => k s
  | .bk s => k s
  | .rt r => kr r
def forS {σ α : Type} : List α → σ → (σ → α → Rx σ) → Rx σ
  | [], s, _ => .ok s
  | x :: r, s, f => (f s x).bind fun s' => forS r s' f
def forR {σ α ρ : Type} : List α → σ → (σ → α → Rx (Lp σ ρ)) → Rx (Lp σ ρ)
  | [], s, _ => .ok (.go s)
  | x :: r, s, f => (f s x).bind fun l =>
    match l with
    | .go s' => forR r s' f
    | .bk s' => .ok (.go s')
    | .rt v => .ok (.rt v)
def whileR {σ ρ : Type} : Nat → σ → (σ → Rx (Lp σ ρ)) → Rx (Lp σ ρ)
  | 0, _, _ => .bad
  | n + 1, s, f => (f s).bind fun l =>
    match l with
    | .go s' => whileR n s' f
    | .bk s' => .ok (.go s')
    | .rt v => .ok (.rt v)
def mapA {α β : Type} : List α → List β → (α → Rx β) → Rx (List β)
  | [], acc, _ => .ok acc
  | x :: r, acc, f => grd (acc.length ≤ 1000000) ((f x).bind fun y => mapA r (acc ++ [y]) f)
def mapF {α β : Type} : List α → List β → (α → Rx (Option β)) → Rx (List β)
  | [], acc, _ => .ok acc
  | x :: r, acc, f => grd (acc.length ≤ 1000000) ((f x).bind fun y =>
    match y with
    | some z => mapF r (acc ++ [z]) f
    | none => mapF r acc f)
section
variable {α β γ σ ρ τ : Type} {K : α → Prop} {E : Nat → Prop}
theorem cW_ok {a : α} (h : cW (.ok a) K E) : K a := by
  unfold cW at h
  exact h
theorem cW_er {e : Nat} (h : cW (.er e : Rx α) K E) : E e := by
  unfold cW at h
  exact h
theorem cW_bad {C : Prop} (h : cW (.bad : Rx α) K E) : C := by
  unfold cW at h
  exact h.elim
theorem cW_mk {a : α} (h : K a) : cW (.ok a) K E := by
  unfold cW
  exact h
theorem cW_mkE {e : Nat} (h : E e) : cW (.er e : Rx α) K E := by
  unfold cW
  exact h
theorem cW_gen {m : Rx α} (h : cW m K E) : ∃ (K' : α → Prop) (E' : Nat → Prop), (∀ v, K' v → K v) ∧ (∀ e, E' e → E e) ∧ cW m K' E' := ⟨K, E, fun _ x => x, fun _ x => x, h⟩
theorem cW_grd {p : Prop} {dp : Decidable p} {m : Rx α} (h : cW (grd p m) K E) : p ∧ cW m K E := by
  unfold grd at h
  split at h
  · exact ⟨‹p›, h⟩
  · exact cW_bad h
theorem cW_pos {p : Prop} {dp : Decidable p} {a b : Rx α} (c : p) (h : cW (if p then a else b) K E) : cW a K E := by rwa [if_pos c] at h
theorem cW_neg {p : Prop} {dp : Decidable p} {a b : Rx α} (c : ¬ p) (h : cW (if p then a else b) K E) : cW b K E := by rwa [if_neg c] at h
theorem cW_call {m : Rx β} {f : β → Rx α} {K2 : β → Prop} {E2 : Nat → Prop} (h : cW (m.bind f) K E) (ho : ∀ v, cW (f v) K E → K2 v) (he : ∀ e, E e → E2 e) : cW m K2 E2 := by
  cases m with
  | ok a => exact cW_mk (ho a h)
  | er e => exact cW_mkE (he e (cW_er (α := α) h))
  | bad => exact cW_bad (α := α) h
theorem cW_push {m : Rx β} {f : β → Rx α} (h : cW (m.bind f) K E) : ∃ K2 : β → Prop, (∀ v, K2 v → cW (f v) K E) ∧ cW m K2 E := ⟨fun v => cW (f v) K E, fun _ x => x, cW_call h (fun _ x => x) fun _ x => x⟩
theorem cW_name {m : Rx α} (h : cW m K E) : ∃ K' : α → Prop, (∀ v, K' v → K v) ∧ cW m K' E := ⟨K, fun _ x => x, h⟩
theorem cW_noEr {m : Rx α} (h : cW (noEr m) K E) : cW m K (fun _ => False) := by
  cases m with
  | ok a => exact cW_mk (cW_ok (α := α) h)
  | er e => exact cW_bad (α := α) h
  | bad => exact cW_bad (α := α) h
theorem cW_try {m : Rx β} {cs : List Nat} {f : β → Rx α} {g : Nat → Rx α} {K2 : β → Prop} {E2 : Nat → Prop} (h : cW (tryR m cs f g) K E) (ho : ∀ v, cW (f v) K E → K2 v) (hc : ∀ e, e ∈ cs → cW (g e) K E → E2 e) : cW m K2 E2 := by
  cases m with
  | ok a => exact cW_mk (ho a h)
  | er e =>
    have h2 : cW (if e ∈ cs then g e else .bad) K E := h
    by_cases q : e ∈ cs
    · exact cW_mkE (hc e q (cW_pos q h2))
    · exact cW_bad (cW_neg q h2)
  | bad => exact cW_bad (α := α) h
theorem cW_bnd {a : β} {f : β → Rx α} (h : cW (bnd a f) K E) : cW (f a) K E := h
theorem cW_negB {b : Bool} {x y : Rx α} (c : b = false) (h : cW (if b = true then x else y) K E) : cW y K E := cW_neg (by rw [c]; decide) h
theorem cW_forS {xs : List β} {i : Nat} {x : β} {s : α} {f : α → β → Rx α} (hx : xs[i]? = some x) (h : cW (forS (xs.drop i) s f) K E) : cW (f s x) (fun s' => cW (forS (xs.drop (i + 1)) s' f) K E) E := by
  rw [List.drop_eq_getElem?_toList_append, hx] at h
  exact cW_call h (fun _ z => z) fun _ z => z
theorem cW_forS0 {xs : List β} {n : Nat} {s : α} {f : α → β → Rx α} (hn : n = xs.length) (h : cW (forS (xs.drop n) s f) K E) : K s := by
  subst hn
  rw [List.drop_length] at h
  exact cW_ok h
theorem cW_forR {K : Lp σ ρ → Prop} {xs : List β} {i : Nat} {x : β} {s : σ} {f : σ → β → Rx (Lp σ ρ)} (hx : xs[i]? = some x) (h : cW (forR (xs.drop i) s f) K E) :
    cW (f s x) (fun l => match l with | .go s' => cW (forR (xs.drop (i + 1)) s' f) K E | .bk s' => K (.go s') | .rt v => K (.rt v)) E := by
  rw [List.drop_eq_getElem?_toList_append, hx] at h
  refine cW_call h (fun l z => ?_) fun _ z => z
  cases l with
  | go s' => exact z
  | bk s' => exact cW_ok (K := K) (a := .go s') z
  | rt v => exact cW_ok (K := K) (a := .rt v) z
theorem cW_forR0 {K : Lp σ ρ → Prop} {xs : List β} {n : Nat} {s : σ} {f : σ → β → Rx (Lp σ ρ)} (hn : n = xs.length) (h : cW (forR (xs.drop n) s f) K E) : K (.go s) := by
  subst hn
  rw [List.drop_length] at h
  exact cW_ok h
theorem cW_whileR {K : Lp σ ρ → Prop} {m : Nat} {s : σ} {f : σ → Rx (Lp σ ρ)} (h : cW (whileR m s f) K E) :
    ∃ n, m = n + 1 ∧ cW (f s) (fun l => match l with | .go s' => cW (whileR n s' f) K E | .bk s' => K (.go s') | .rt v => K (.rt v)) E := by
  cases m with
  | zero => exact cW_bad h
  | succ n =>
    refine ⟨n, rfl, cW_call h (fun l z => ?_) fun _ z => z⟩
    cases l with
    | go s' => exact z
    | bk s' => exact cW_ok (K := K) (a := .go s') z
    | rt v => exact cW_ok (K := K) (a := .rt v) z
theorem cW_mapA {K : List α → Prop} {xs : List β} {acc : List α} {i : Nat} {x : β} {f : β → Rx α} (hx : xs[i]? = some x) (h : cW (mapA (xs.drop i) acc f) K E) :
    acc.length ≤ 1000000 ∧ cW (f x) (fun y => cW (mapA (xs.drop (i + 1)) (acc ++ [y]) f) K E) E := by
  rw [List.drop_eq_getElem?_toList_append, hx] at h
  obtain ⟨z, h⟩ := cW_grd h
  exact ⟨z, cW_call h (fun _ z => z) fun _ z => z⟩
theorem cW_mapA0 {K : List α → Prop} {xs : List β} {acc : List α} {n : Nat} {f : β → Rx α} (hn : n = xs.length) (h : cW (mapA (xs.drop n) acc f) K E) : K acc := by
  subst hn
  rw [List.drop_length] at h
  exact cW_ok h
theorem cW_mapF {K : List α → Prop} {xs : List β} {acc : List α} {i : Nat} {x : β} {f : β → Rx (Option α)} (hx : xs[i]? = some x) (h : cW (mapF (xs.drop i) acc f) K E) :
    acc.length ≤ 1000000 ∧ cW (f x) (fun y => match y with | some z => cW (mapF (xs.drop (i + 1)) (acc ++ [z]) f) K E | none => cW (mapF (xs.drop (i + 1)) acc f) K E) E := by
  rw [List.drop_eq_getElem?_toList_append, hx] at h
  obtain ⟨z, h⟩ := cW_grd h
  refine ⟨z, cW_call h (fun y z => ?_) fun _ z => z⟩
  cases y with
  | none => exact z
  | some w => exact z
theorem cW_mapF0 {K : List α → Prop} {xs : List β} {acc : List α} {n : Nat} {f : β → Rx (Option α)} (hn : n = xs.length) (h : cW (mapF (xs.drop n) acc f) K E) : K acc := by
  subst hn
  rw [List.drop_length] at h
  exact cW_ok h
end
/-- the numbers of a range -/
def rng (lo : Int) (n : Nat) : List Int := (List.range n).map fun (j : Nat) => lo + (j : Int)
theorem rng_get {lo : Int} {n i : Nat} (h : i < n) : (rng lo n)[i]? = some (lo + (i : Int)) := by
  unfold rng
  rw [List.getElem?_map, List.getElem?_range h] <;> rfl
theorem rng_len (lo : Int) (n : Nat) : (rng lo n).length = n := by
  unfold rng
  rw [List.length_map, List.length_range]

def rngD (lo : Int) (n : Nat) : List Int := (List.range n).map fun (j : Nat) => lo + (j : Int) * (-1)
theorem rngD_get {lo : Int} {n i : Nat} (h : i < n) : (rngD lo n)[i]? = some (lo + (i : Int) * (-1)) := by
  unfold rngD
  rw [List.getElem?_map, List.getElem?_range h] <;> rfl
theorem rngD_len (lo : Int) (n : Nat) : (rngD lo n).length = n := by
  unfold rngD
  rw [List.length_map, List.length_range]

/-! ### calls that may raise -/
/-- what a call with n values and keywords ks gives the parameters -/
structure Bnd (K : PySem.W.Frag) (fd : FuncData) (ps : List Str) (n : Nat) (ks : List Str) (g : List V → List V → List V) : Prop where
  to : ∀ (s : Shared) (us ws : List Value) (vs zs : List V), K.In s.heap → vs.length = n → zs.length = ks.length → Vals vs us → Vals zs ws → ∃ vv : List Value, BindsTo s fd ⟨us, ks.zip ws⟩ (ps.zip vv) ∧ Vals (g vs zs) vv
theorem Bnd.of_kbn {K : PySem.W.Frag} {fd : FuncData} {ps ks : List Str} {n : Nat} {g : List Value → List Value → List Value} {gV : List V → List V → List V} (b : KBn K fd ps n ks g gV) : Bnd K fd ps n ks gV :=
  ⟨fun s us ws vs zs X l1 l2 r rz => ⟨g us ws, b.to s us ws X (r.length.symm.trans l1) (rz.length.symm.trans l2), b.rel r rz⟩⟩
theorem Bnd.all {K : PySem.W.Frag} {fd : FuncData} {ps ks : List Str} {n : Nat} {g : List V → List V → List V} (h : ∀ (us ws : List Value) (vs zs : List V), vs.length = n → zs.length = ks.length → Vals vs us → Vals zs ws →
    ∃ vv : List Value, bindArgs fd ⟨us, ks.zip ws⟩ = pure (ps.zip vv) ∧ Vals (g vs zs) vv) : Bnd K fd ps n ks g :=
  ⟨fun s us ws vs zs _ l1 l2 r rz => by
    obtain ⟨vv, e, q⟩ := h us ws vs zs l1 l2 r rz
    exact ⟨vv, BindsTo.of_eq e, q⟩⟩
abbrev Pat := Nat × List Str × (List V → List V → List V)
def Bnd1 (K : PySem.W.Frag) (fd : FuncData) (ps : List Str) (p : Pat) : Prop := Bnd K fd ps p.1 p.2.1 p.2.2
section
variable {P : Program} {w : World} {K : PySem.W.Frag} {mg : Str → Option Value} {base : Heap}
/-- a def of the top, with the ways it is called -/
structure DefX (K : PySem.W.Frag) (mg : Str → Option Value) (x : Str) (st : Stmt) (ps : List Str) (pats : List Pat) : Prop where
  ex : ∃ (f : Addr) (fd : FuncData) (dvs : List V) (kws : List (Str × V)), FunD K x x (defArgs st) (defBody st) (defScope st) dvs kws f fd ∧ mg x = some (.ref f) ∧ ∀ p ∈ pats, Bnd1 K fd ps p
structure CalX (P : Program) (w : World) (K : PySem.W.Frag) (mg : Str → Option Value) (base : Heap) (k : Nat) (x : Str) (sp : Sp) (pats : List Pat) : Prop where
  ex : ∃ (f : Addr) (fd : FuncData) (ps : List Str), FnG P w K mg base (L2.CX P w) k f fd ps sp ∧ mg x = some (.ref f) ∧ PySem.W.keepIn K (.ref f) = true ∧ ∀ p ∈ pats, Bnd1 K fd ps p
abbrev BodyX (P : Program) (w : World) (K : PySem.W.Frag) (mg : Str → Option Value) (base : Heap) (x : Str) (st : Stmt) (N : List Str) (k : Nat) (sp : Sp) : Prop :=
  ∀ (f : Addr) (cdv : Value) (A : Around) (outer : List Env) (s : Shared) (H : Hp) (vs : List V) (Q : VK) (E : XK), RoomG k (A.deeper (envOfC x (defScope st) s.heap.objs.size f cdv)) → sp vs H Q E →
    ∃ t, PSs (cxOf (L2.CX P w) P w K mg base N x (defScope st) f cdv A outer s H E) (defBody st) t ∧ t { nx := fun _ H' => Q .non H', rt := Q } (start N vs) H
theorem DefX.ok {x : Str} {st : Stmt} {N ps : List Str} {pats : List Pat} {k : Nat} {sp : Sp} (D : DefX K mg x st ps pats) (S : FnScope N ps (defScope st)) (len : ∀ vs H Q E, sp vs H Q E → vs.length = ps.length)
    (hbody : BodyX P w K mg base x st N k sp) : CalX P w K mg base (k + 1) x sp pats := by
  obtain ⟨f, fd, dvs, kws, F, hm, b⟩ := D.ex
  exact ⟨f, fd, ps, FnG.body F S len (fun cdv A outer s H vs Q E hr h => hbody f cdv A outer s H vs Q E hr h), hm, F.kp, b⟩
end
section
variable {X : Cx} {k j n : Nat} {f : Addr} {fd : FuncData} {ps ks : List Str} {g : List V → List V → List V} {sp : Sp} {x : Str} {pos p : Pos} {e : Expr} {es : List Expr} {kws : List Keyword} {t tk : TA} {W : WX}
theorem run_X {pins : List (Addr × Obj)} {σ : L2.St} {H : Hp} {s : Shared} {Q : VK} {us ws : List Value} {vs zs : List V} (F : FnG X.prog X.w X.K X.mg X.base (L2.CX X.prog X.w) k f fd ps sp) (hr : RoomG k X.A) (hb : Bnd X.K fd ps n ks g) (tkW : Takes X W)
    (I : Inv X pins σ H s) (r : Vals vs us) (rz : Vals zs ws) (l1 : vs.length = n) (l2 : zs.length = ks.length) (h : sp (g vs zs) H Q (WE W σ)) :
    wpAny (model X.prog X.w) X.A (call (.ref f) us (ks.zip ws)) (EP X pins σ Q) X.xe s := by
  obtain ⟨vv, b, r2⟩ := hb.to s us ws vs zs I.kIn l1 l2 r rz
  refine wpAny_call (codeAny_mono (F.run X.A X.stack s H ⟨us, ks.zip ws⟩ vv (g vs zs) Q (WE W σ) hr I.env0 b r2 h) fun rr s' hq => ?_)
  cases rr with
  | error er => exact passAt tkW σ pins H s er s' I hq
  | ok fl =>
    cases fl with
    | ret u => exact I.after hq
    | next => exact hq.elim
    | brk => exact hq.elim
    | cont => exact hq.elim
/-- f(e, .., k = v, ..) -/
def tCallX (n m : Nat) (sp : Sp) (g : List V → List V → List V) (W : WX) (t tk : TA) : TE := fun σ H Q => t σ H fun vs H1 => tk σ H1 fun zs H2 => vs.length = n ∧ zs.length = m ∧ sp (g vs zs) H2 Q (WE W σ)
theorem vx_callX {pats : List Pat} (c : CalX X.prog X.w X.K X.mg X.base k x sp pats) (pt : Pat) (hpt : pt ∈ pats) (hr : RoomG j X.A) (hk : k ≤ j) (tkW : Takes X W) (hg : Gl X x) (ha : PA X (e :: es) t) (hkw : PK X kws tk)
    (hall : (backToKw pos (keywordEach kws X.env)).all (·.1.isSome) = true := by rfl) (hks : (backToKw pos (keywordEach kws X.env)).filterMap (·.1) = pt.2.1 := by rfl)
    (hdb : (x == ("__debug__" : Str)) = false := by decide) (he : starEach (e :: es) X.env = (false, eval e X.env) :: starEach es X.env := by rfl)
    (hpl : ((backTo pos (starEach (e :: es) X.env)).any (·.1) || (backToKw pos (keywordEach kws X.env)).any (·.1.isNone)) = false := by rfl) :
    PE X (.Call (.Name x p) (e :: es) kws pos) (tCallX pt.1 pt.2.1.length sp pt.2.2 W t tk) := by
  obtain ⟨f, fd, ps, F, hm, kp, b⟩ := c.ex
  refine ⟨fun pins s σ H Q I h => ?_⟩
  refine wpAny_Call_Name_kw (ld_glob I hg hm ?_ hdb)
  refine PySem.W.callWith_KW (h₀ := X.base) I.ok.mod.kin kp hall (thn (ha.run pos pins s σ H _ I h) fun us s1 ⟨vs, H1, I1, r, q⟩ => ?_) hpl he
  refine thn (hkw.run pos pins s1 σ H1 _ I1 q) fun ws s2 ⟨zs, H2, I2, rz, l1, l2, q2⟩ => ⟨I2.kIn, ?_⟩
  rw [hks]
  exact run_X F (hr.low hk) (b pt hpt) tkW I2 r rz l1 l2 q2
theorem vx_callX0 {pats : List Pat} (c : CalX X.prog X.w X.K X.mg X.base k x sp pats) (pt : Pat) (hpt : pt ∈ pats) (hr : RoomG j X.A) (hk : k ≤ j) (tkW : Takes X W) (hg : Gl X x) (hks : pt.2.1 = [] := by rfl)
    (hdb : (x == ("__debug__" : Str)) = false := by decide) : PE X (.Call (.Name x p) [] [] pos) (tCallX pt.1 pt.2.1.length sp pt.2.2 W tNil tNil) := by
  obtain ⟨f, fd, ps, F, hm, kp, b⟩ := c.ex
  refine ⟨fun pins s σ H Q I h => ?_⟩
  refine wpAny_Call_Name_kw (ld_glob I hg hm ?_ hdb)
  obtain ⟨l1, l2, q2⟩ := h
  have hz := run_X (us := []) (ws := []) F (hr.low hk) (b pt hpt) tkW I .nil .nil l1 l2 q2
  rw [hks] at hz
  exact PySem.W.callWith_K0 I.kIn kp hz
end
/-! ### borrowed things -/
theorem Sep.bM {M : List Addr} {H0 G0 G H : Hp} {O : List (Addr)} (S : Sep M H0 G0 G H O) : Same (hideL M H0) H := fun b o e => by
  by_cases h : b ∈ M
  · rw [hideL_in h] at e
    cases e
  · rw [hideL_out h] at e
    exact S.base b o e h
theorem b_ne {M : List Addr} {H0 G0 G H : Hp} {O : List Addr} {a b : Addr} {o : HO} (h : (hideL M H0) a = some o) (S : Sep M H0 G0 G H O) (hb : b ∈ O) : a ≠ b := fun z => by
  subst z
  rcases (S.ow a hb).2.2 with q | q
  · rw [hideL_in q] at h
    cases h
  · by_cases hM : a ∈ M
    · rw [hideL_in hM] at h
      cases h
    · rw [hideL_out hM, q] at h
      cases h
theorem hide0 {H : Hp} : hideL [] H = H := by
  funext b
  unfold hideL
  rw [if_neg List.not_mem_nil]
theorem hide_nil {H : Hp} {a : Addr} {o : HO} (h : H a = some o) : (hideL [] H) a = some o := by
  rw [hide0]
  exact h
theorem Rp.hide_nil {H : Hp} {v : V} {d : PyData} (h : Rp H v d) : Rp (hideL [] H) v d := by
  rw [hide0]
  exact h
theorem Sep.startM {M : List Addr} {G H : Hp} (e : Same G H) (hM : ∀ a ∈ M, H a ≠ none) (hG : ∀ a ∈ M, G a = none) : Sep M H G G H M :=
  ⟨fun _ _ e _ => e, hM, e, Same.refl _, fun _ _ e => e, fun a ha => ⟨hG a ha, hM a ha, .inl ha⟩⟩
theorem Sep.gno {M : List Addr} {H0 G0 G H : Hp} {O L : List Addr} (S : Sep M H0 G0 G H O) (h : ∀ a ∈ L, a ∈ O) : ∀ a ∈ L, G a = none := fun a ha => (S.ow a (h a ha)).1
theorem RpAll.ixD {α : Type} [Inhabited α] {f : α → PyData} {H : Hp} {vs : List V} {xs : List α} {k : Int} (r : RpAll H vs (xs.map f)) (h : -(xs.length : Int) ≤ k ∧ k < xs.length) : ∃ v, atI vs k = some v ∧ Rp H v (f (itD xs k)) := by
  obtain ⟨v, x, h1, h2, h3⟩ := RpAll.ix r h
  refine ⟨v, h1, ?_⟩
  unfold itD
  rw [h2]
  exact h3
theorem tru_all {α : Type} [DecidableEq α] {f : α → PyData} {H : Hp} {vs : List V} {xs : List α} (r : RpAll H vs (xs.map f)) : (!decide (xs = [])) = !vs.isEmpty := by
  have h := r.len
  rw [List.length_map] at h
  cases xs <;> cases vs <;> simp_all
theorem ix_nn {α : Type} {xs : List α} {k : Int} (h0 : 0 ≤ k) (h1 : k < xs.length) : -(xs.length : Int) ≤ k ∧ k < xs.length := ⟨by omega, h1⟩
theorem all_nilQ {α : Type} {P : α → Prop} : ∀ x ∈ ([] : List α), P x := fun x h => by cases h
theorem all_consQ {α : Type} {P : α → Prop} {a : α} {l : List α} (h : P a) (t : ∀ x ∈ l, P x) : ∀ x ∈ a :: l, P x := fun x hx => by
  rcases List.mem_cons.mp hx with rfl | hx
  · exact h
  · exact t x hx
theorem mem_one {a b : Nat} (h : a ∈ [b]) : a = b := by simpa using h
theorem mem_cons2 {a b : Nat} {l : List Nat} (h : a ∈ b :: l) : a = b ∨ a ∈ l := List.mem_cons.mp h
theorem len0 {α : Type} {l : List α} (h : l.length = 0) : l = [] := List.length_eq_zero_iff.mp h
theorem len1 {α : Type} {l : List α} (h : l.length = 1) : ∃ a, l = [a] := List.length_eq_one_iff.mp h
theorem len_s {α : Type} {l : List α} {n : Nat} (h : l.length = n + 1) : ∃ a r, l = a :: r ∧ r.length = n := by
  cases l with
  | nil => cases h
  | cons a r => exact ⟨a, r, rfl, Nat.succ.inj h⟩
theorem len2 {α : Type} {l : List α} (h : l.length = 2) : ∃ a b, l = [a, b] := by
  obtain ⟨a, r, rfl, h2⟩ := len_s h
  obtain ⟨b, rfl⟩ := len1 h2
  exact ⟨a, b, rfl⟩
theorem len3 {α : Type} {l : List α} (h : l.length = 3) : ∃ a b c, l = [a, b, c] := by
  obtain ⟨a, r, rfl, h2⟩ := len_s h
  obtain ⟨b, c, rfl⟩ := len2 h2
  exact ⟨a, b, c, rfl⟩
theorem len4 {α : Type} {l : List α} (h : l.length = 4) : ∃ a b c d, l = [a, b, c, d] := by
  obtain ⟨a, r, rfl, h2⟩ := len_s h
  obtain ⟨b, c, d, rfl⟩ := len3 h2
  exact ⟨a, b, c, d, rfl⟩
theorem len5 {α : Type} {l : List α} (h : l.length = 5) : ∃ a b c d e, l = [a, b, c, d, e] := by
  obtain ⟨a, r, rfl, h2⟩ := len_s h
  obtain ⟨b, c, d, e, rfl⟩ := len4 h2
  exact ⟨a, b, c, d, e, rfl⟩
theorem len6 {α : Type} {l : List α} (h : l.length = 6) : ∃ a b c d e f, l = [a, b, c, d, e, f] := by
  obtain ⟨a, r, rfl, h2⟩ := len_s h
  obtain ⟨b, c, d, e, f, rfl⟩ := len5 h2
  exact ⟨a, b, c, d, e, f, rfl⟩
theorem len7 {α : Type} {l : List α} (h : l.length = 7) : ∃ a b c d e f g, l = [a, b, c, d, e, f, g] := by
  obtain ⟨a, r, rfl, h2⟩ := len_s h
  obtain ⟨b, c, d, e, f, g, rfl⟩ := len6 h2
  exact ⟨a, b, c, d, e, f, g, rfl⟩
def rLenTK (K : PySem.W.Frag) : List V → Hp → VK → Prop := fun xs H Q => ∃ (p : Addr) (vs : List V) (n : Nat), xs = [.ref p] ∧ SqT K H p vs ∧ vs.length = n ∧ Q (.int (n : Int)) H
theorem call_lenTK {X : Cx} {K : PySem.W.Frag} (hK : X.K = K := by rfl) : CallR X (.builtin "len") (rLenTK K) := by
  subst hK
  intro pins s σ H xs us Q I r h
  obtain ⟨p, vs, n, rfl, hs, hn, q⟩ := h
  exact call_len_seq pins s σ H _ us Q I r ⟨p, _, rfl, Or.inr hs, by rw [hn]; exact q⟩
theorem exm_mk {K : PySem.W.Frag} {S C : Addr} (h1 : PySem.W.subIn K (.ref C) (.type "BaseException") = some true) (h2 : PySem.W.isClsIn K C = true) (h3 : PySem.W.typeIn K (.ref C) = some (.type "type")) (h4 : PySem.W.subIn K (.ref S) (.ref C) = some true) :
    PySem.W.exmOne K (.ref S) (.ref C) = some true := by
  unfold PySem.W.isClsIn at h2
  unfold PySem.W.exmOne
  unfold PySem.W.kitCls
  simp only [h1, h2, h3, h4, beq_self_eq_true, Bool.and_self, if_true]
theorem kit_mk {K : PySem.W.Frag} {S C : Addr} (h2 : PySem.W.isClsIn K C = true) (h3 : PySem.W.typeIn K (.ref C) = some (.type "type")) (h4 : PySem.W.subIn K (.ref S) (.ref C) = some true) :
    PySem.W.kitOne K (.ref S) (.ref C) = some true := by
  unfold PySem.W.isClsIn at h2
  unfold PySem.W.kitOne
  split
  · rfl
  · unfold PySem.W.kitCls
    simp only [h2, h3, h4, beq_self_eq_true, Bool.and_self, if_true]
/-- isinstance(e, C) of the exception in hand -/
def rIsX (K : PySem.W.Frag) (a : Addr) (cls : Value) (d : Option Addr) : List V → Hp → VK → Prop := fun xs H Q => ∃ (D C : Addr) (b : Bool), cls = .ref D ∧ d = none ∧ ExcC K D ∧ xs = [.ref a, .ref C] ∧ PySem.W.kitOne K (.ref D) (.ref C) = some b ∧ Q (.bl b) H
theorem call_isX {X : Cx} {K : PySem.W.Frag} {a : Addr} {cls : Value} {d : Option Addr} {oe : Obj} {pn : List (Addr × Obj)} (hz : Zc cls d oe) (hf : ∃ vs, oe.data = .fields vs) (hK : X.K = K := by rfl) : CallR (X.suite a ((a, oe) :: pn)) (.builtin "isinstance") (rIsX K a cls d) := by
  subst hK
  intro pins s σ H xs us Q I r h
  obtain ⟨D, C, b, rfl, rfl, c, rfl, e, q⟩ := h
  exact call_isE c hz hf pins s σ H _ us Q I r ⟨_, _, b, rfl, fun u z => z, e, q⟩
/-! ### unpacking a list -/
section
variable {X : Cx} {K : PySem.W.Frag} {pos : Pos}
theorem pg_seqK {es : List Expr} {k : Nat} {t : TGs} {n : Nat} (h : PGs X es t) (hc : X.calm = true := by rfl) (hK : X.K = K := by rfl)
    (hn : (assignEach es X.env).length = n := by rfl) (hst : (assignEach es X.env).findIdx? (·.1) = none := by rfl) : PG X (.Tuple es k pos) (gLst K n t) := hK ▸ pg_lst hc h hn hst
end
theorem SqL.cast {K : PySem.W.Frag} {H : Hp} {a : Addr} {xs ys : List V} (h : SqL K H a xs) (e : xs = ys) : SqL K H a ys := e ▸ h
section
variable {α : Type} [Inhabited α] {f : α → V}
theorem unp2 {xs : List α} (h : xs.length = 2) : xs.map f = [f (itD xs 0), f (itD xs 1)] := by
  obtain ⟨a, b, rfl⟩ := len2 h
  rfl
theorem unp3 {xs : List α} (h : xs.length = 3) : xs.map f = [f (itD xs 0), f (itD xs 1), f (itD xs 2)] := by
  obtain ⟨a, b, c, rfl⟩ := len3 h
  rfl
theorem unp4 {xs : List α} (h : xs.length = 4) : xs.map f = [f (itD xs 0), f (itD xs 1), f (itD xs 2), f (itD xs 3)] := by
  obtain ⟨a, b, c, d, rfl⟩ := len4 h
  rfl
theorem unp6 {xs : List α} (h : xs.length = 6) : xs.map f = [f (itD xs 0), f (itD xs 1), f (itD xs 2), f (itD xs 3), f (itD xs 4), f (itD xs 5)] := by
  obtain ⟨a, b, c, d, e, g, rfl⟩ := len6 h
  rfl
theorem unp8 {xs : List α} (h : xs.length = 8) : xs.map f = [f (itD xs 0), f (itD xs 1), f (itD xs 2), f (itD xs 3), f (itD xs 4), f (itD xs 5), f (itD xs 6), f (itD xs 7)] := by
  obtain ⟨a, r, rfl, h2⟩ := len_s h
  obtain ⟨b, c, d, e, g, i, j, rfl⟩ := len7 h2
  rfl
end
/-! ### classes -/
section
variable {P : Program} {w : World} {K : PySem.W.Frag} {mg : Str → Option Value} {base : Heap}
structure MethX (K : PySem.W.Frag) (C : Addr) (q m : Str) (st : Stmt) (ps : List Str) (pats : List Pat) : Prop where
  ex : ∃ (f : Addr) (fd : FuncData) (dvs : List V) (kws : List (Str × V)), FunD K m q (defArgs st) (defBody st) (defScope st) dvs kws f fd ∧ Meth K C m f ∧ ∀ p ∈ pats, Bnd1 K fd ps p
structure InitX (K : PySem.W.Frag) (mg : Str → Option Value) (C : Addr) (cn q : Str) (st : Stmt) (ps : List Str) (pats : List Pat) : Prop where
  ex : ∃ (f : Addr) (fd : FuncData) (dvs : List V) (kws : List (Str × V)), FunD K "__init__" q (defArgs st) (defBody st) (defScope st) dvs kws f fd ∧ Mk K C f ∧ mg cn = some (.ref C) ∧ ∀ p ∈ pats, Bnd1 K fd ps p
structure PropX (K : PySem.W.Frag) (C : Addr) (q m : Str) (st : Stmt) (ps : List Str) (pats : List Pat) : Prop where
  ex : ∃ (r f : Addr) (fd : FuncData) (dvs : List V) (kws : List (Str × V)), FunD K m q (defArgs st) (defBody st) (defScope st) dvs kws f fd ∧ PropOf K C m r f ∧ Binds K fd ps []
structure MetX (P : Program) (w : World) (K : PySem.W.Frag) (mg : Str → Option Value) (base : Heap) (k : Nat) (C : Addr) (m : Str) (sp : Sp) (pats : List Pat) : Prop where
  ex : ∃ (f : Addr) (fd : FuncData) (ps : List Str), Cls K C ∧ Meth K C m f ∧ FnG P w K mg base (L2.CX P w) k f fd ps sp ∧ ∀ p ∈ pats, Bnd1 K fd ps p
structure PropY (P : Program) (w : World) (K : PySem.W.Frag) (mg : Str → Option Value) (base : Heap) (k : Nat) (C : Addr) (m : Str) (sp : Sp) (pats : List Pat) : Prop where
  ex : ∃ (q f : Addr) (fd : FuncData) (ps : List Str), Cls K C ∧ PropOf K C m q f ∧ FnG P w K mg base (L2.CX P w) k f fd ps sp ∧ Binds K fd ps []
structure MakX (P : Program) (w : World) (K : PySem.W.Frag) (mg : Str → Option Value) (base : Heap) (k : Nat) (cn : Str) (C : Addr) (sp : Sp) (pats : List Pat) : Prop where
  ex : ∃ (f : Addr) (fd : FuncData) (ps : List Str), Mk K C f ∧ FnG P w K mg base (L2.CX P w) k f fd ps sp ∧ mg cn = some (.ref C) ∧ ∀ p ∈ pats, Bnd1 K fd ps p
theorem MethX.ok {C : Addr} {q m : Str} {st : Stmt} {N ps : List Str} {pats : List Pat} {k : Nat} {sp : Sp} (D : MethX K C q m st ps pats) (c : Cls K C) (S : FnScope N ps (defScope st)) (len : ∀ vs H Q E, sp vs H Q E → vs.length = ps.length)
    (hbody : BodyX P w K mg base q st N k sp) : MetX P w K mg base (k + 1) C m sp pats := by
  obtain ⟨f, fd, dvs, kws, F, me, b⟩ := D.ex
  exact ⟨f, fd, ps, c, me, FnG.body F S len (fun cdv A outer s H vs Q E hr h => hbody f cdv A outer s H vs Q E hr h), b⟩
theorem PropX.ok {C : Addr} {q m : Str} {st : Stmt} {N ps : List Str} {pats : List Pat} {k : Nat} {sp : Sp} (D : PropX K C q m st ps pats) (c : Cls K C) (S : FnScope N ps (defScope st)) (len : ∀ vs H Q E, sp vs H Q E → vs.length = ps.length)
    (hbody : BodyX P w K mg base q st N k sp) : PropY P w K mg base (k + 1) C m sp pats := by
  obtain ⟨r, f, fd, dvs, kws, F, me, b⟩ := D.ex
  exact ⟨r, f, fd, ps, c, me, FnG.body F S len (fun cdv A outer s H vs Q E hr h => hbody f cdv A outer s H vs Q E hr h), b⟩
theorem InitX.ok {C : Addr} {cn q : Str} {st : Stmt} {N ps : List Str} {pats : List Pat} {k : Nat} {sp : Sp} (D : InitX K mg C cn q st ps pats) (S : FnScope N ps (defScope st)) (len : ∀ vs H Q E, sp vs H Q E → vs.length = ps.length)
    (hbody : BodyX P w K mg base q st N k sp) : MakX P w K mg base (k + 1) cn C sp pats := by
  obtain ⟨f, fd, dvs, kws, F, me, hm, b⟩ := D.ex
  exact ⟨f, fd, ps, me, FnG.body F S len (fun cdv A outer s H vs Q E hr h => hbody f cdv A outer s H vs Q E hr h), hm, b⟩
end
theorem cW_callN {α β : Type} {m : Rx β} {f : β → Rx α} {K : α → Prop} {E : Nat → Prop} {K2 : β → Prop} {E2 : Nat → Prop} (h : cW ((noEr m).bind f) K E) (ho : ∀ v, cW (f v) K E → K2 v) (_ : True) : cW m K2 E2 := by
  cases m with
  | ok a => exact cW_mk (ho a h)
  | er e => exact cW_bad (α := α) h
  | bad => exact cW_bad (α := α) h
section
variable {X : Cx} {k j n : Nat} {f C : Addr} {fd : FuncData} {ps ks : List Str} {g : List V → List V → List V} {sp : Sp} {x m : Str} {pos p apos : Pos} {e o : Expr} {es : List Expr} {kws : List Keyword} {ta : TE} {t tk : TA} {W : WX}
theorem run_mkX {pins : List (Addr × Obj)} {σ : L2.St} {H : Hp} {s : Shared} {Q : VK} {us ws : List Value} {vs zs : List V} (M : Mk X.K C f) (F : FnG X.prog X.w X.K X.mg X.base (L2.CX X.prog X.w) k f fd ps sp) (hr : RoomG (k + 1) X.A) (hb : Bnd X.K fd ps n ks g) (tkW : Takes X W)
    (I : Inv X pins σ H s) (r : Vals vs us) (rz : Vals zs ws) (l1 : vs.length + 1 = n) (l2 : zs.length = ks.length)
    (h : ∀ x dx, H x = none → H dx = none → dx ≠ x → sp (g (.ref x :: vs) zs) (upd (upd H dx (.own x)) x (.ins C dx [])) (fun v H2 => v = .non ∧ Q (.ref x) H2) (WE W σ)) :
    wpAny (model X.prog X.w) X.A (call (.ref C) us (ks.zip ws)) (EP X pins σ Q) X.xe s := by
  have hq := h (s.heap.objs.size + 1) s.heap.objs.size (I.hok.fresh (Nat.le_succ _)) (I.hok.fresh (Nat.le_refl _)) (Nat.ne_of_lt (Nat.lt_succ_self _))
  have I2 := Inv.made (C := C) I
  have r1 : Vals (V.ref (s.heap.objs.size + 1) :: vs) (Value.ref (s.heap.objs.size + 1) :: us) := .cons rfl r
  obtain ⟨vv, b, r2⟩ := hb.to _ (Value.ref (s.heap.objs.size + 1) :: us) ws (V.ref (s.heap.objs.size + 1) :: vs) zs I2.kIn (by rw [List.length_cons, l1]) l2 r1 rz
  refine wpAny_call (make_map (f := f) I.kIn M.makes M.init (beq_iff_eq.mp M.fn) (codeAny_mono (F.run _ X.stack _ _ ⟨Value.ref (s.heap.objs.size + 1) :: us, ks.zip ws⟩ vv _ _ (WE W σ) (hr.made C us (ks.zip ws))
    (I2.env0.make C us (ks.zip ws)) b r2 hq) fun r s' hq' => ?_))
  cases r with
  | error e => exact passAt tkW σ pins _ _ e s' I2 hq'
  | ok fl =>
    cases fl with
    | ret u =>
      obtain ⟨v, H', I3, rv, ev, q3⟩ := I2.after hq'
      subst ev
      exact ⟨rv, ⟨V.ref (s.heap.objs.size + 1), H', I3, rfl, q3⟩⟩
    | next => exact False.elim hq'
    | brk => exact False.elim hq'
    | cont => exact False.elim hq'
/-- C(e, .., k = v, ..) -/
def tMakeX (C : Addr) (n m : Nat) (sp : Sp) (g : List V → List V → List V) (W : WX) (t tk : TA) : TE := fun σ H Q => t σ H fun vs H1 => tk σ H1 fun zs H2 => vs.length + 1 = n ∧ zs.length = m ∧ ∀ x dx, H2 x = none → H2 dx = none → dx ≠ x →
  sp (g (.ref x :: vs) zs) (upd (upd H2 dx (.own x)) x (.ins C dx [])) (fun v H3 => v = .non ∧ Q (.ref x) H3) (WE W σ)
theorem vx_makeX {pats : List Pat} (c : MakX X.prog X.w X.K X.mg X.base k x C sp pats) (pt : Pat) (hpt : pt ∈ pats) (hr : RoomG j X.A) (hk : k + 1 ≤ j) (tkW : Takes X W) (hg : Gl X x) (ha : PA X (e :: es) t) (hkw : PK X kws tk)
    (hall : (backToKw pos (keywordEach kws X.env)).all (·.1.isSome) = true := by rfl) (hks : (backToKw pos (keywordEach kws X.env)).filterMap (·.1) = pt.2.1 := by rfl) (hdb : (x == ("__debug__" : Str)) = false := by decide)
    (he : starEach (e :: es) X.env = (false, eval e X.env) :: starEach es X.env := by rfl) (hpl : ((backTo pos (starEach (e :: es) X.env)).any (·.1) || (backToKw pos (keywordEach kws X.env)).any (·.1.isNone)) = false := by rfl) :
    PE X (.Call (.Name x p) (e :: es) kws pos) (tMakeX C pt.1 pt.2.1.length sp pt.2.2 W t tk) := by
  obtain ⟨f, fd, ps, M, F, hm, b⟩ := c.ex
  refine ⟨fun pins s σ H Q I h => ?_⟩
  refine wpAny_Call_Name_kw (ld_glob I hg hm ?_ hdb)
  refine PySem.W.callWith_KW (h₀ := X.base) I.ok.mod.kin M.kp hall (thn (ha.run pos pins s σ H _ I h) fun us s1 ⟨vs, H1, I1, r, q⟩ => ?_) hpl he
  refine thn (hkw.run pos pins s1 σ H1 _ I1 q) fun ws s2 ⟨zs, H2, I2, rz, l1, l2, q2⟩ => ⟨I2.kIn, ?_⟩
  rw [hks]
  exact run_mkX M F (hr.low hk) (b pt hpt) tkW I2 r rz l1 l2 q2
theorem vx_makeX0 {pats : List Pat} (c : MakX X.prog X.w X.K X.mg X.base k x C sp pats) (pt : Pat) (hpt : pt ∈ pats) (hr : RoomG j X.A) (hk : k + 1 ≤ j) (tkW : Takes X W) (hg : Gl X x) (hks : pt.2.1 = [] := by rfl)
    (hdb : (x == ("__debug__" : Str)) = false := by decide) : PE X (.Call (.Name x p) [] [] pos) (tMakeX C pt.1 pt.2.1.length sp pt.2.2 W tNil tNil) := by
  obtain ⟨f, fd, ps, M, F, hm, b⟩ := c.ex
  refine ⟨fun pins s σ H Q I h => ?_⟩
  refine wpAny_Call_Name_kw (ld_glob I hg hm ?_ hdb)
  obtain ⟨l1, l2, q2⟩ := h
  have hz := run_mkX (us := []) (ws := []) M F (hr.low hk) (b pt hpt) tkW I .nil .nil l1 l2 q2
  rw [hks] at hz
  exact PySem.W.callWith_K0 I.kIn M.kp hz
/-- o.m(e, .., k = v, ..) -/
def tMethX (C : Addr) (m : Str) (n mm : Nat) (sp : Sp) (g : List V → List V → List V) (W : WX) (ta : TE) (t tk : TA) : TE := fun σ H Q => ta σ H fun x H1 => ∃ a dx fs, x = .ref a ∧ H1 a = some (.ins C dx fs) ∧ fs.lookup m = none ∧
  t σ H1 fun vs H2 => tk σ H2 fun zs H3 => (x :: vs).length = n ∧ zs.length = mm ∧ sp (g (x :: vs) zs) H3 Q (WE W σ)
theorem vx_methX {pats : List Pat} {pl : Sem Bool} (c : MetX X.prog X.w X.K X.mg X.base k C m sp pats) (pt : Pat) (hpt : pt ∈ pats) (hr : RoomG j X.A) (hk : k ≤ j) (tkW : Takes X W) (he : PE X o ta) (ha : PA X (e :: es) t) (hkw : PK X kws tk)
    (hall : (backToKw pos (keywordEach kws X.env)).all (·.1.isSome) = true := by rfl) (hks : (backToKw pos (keywordEach kws X.env)).filterMap (·.1) = pt.2.1 := by rfl)
    (hst : starEach (e :: es) X.env = (false, eval e X.env) :: starEach es X.env := by rfl) (hpl : ((backTo pos (starEach (e :: es) X.env)).any (·.1) || (backToKw pos (keywordEach kws X.env)).any (·.1.isNone)) = false := by rfl)
    (ht : eval (.Call (.Attribute o m apos) (e :: es) kws pos) X.env = (do
      let ov ← eval o X.env
      standAt apos.atName
      let (f, first) ← holding [ov] (getMethod ov m pl)
      callWith pos f first (backTo pos (starEach (e :: es) X.env)) (backToKw pos (keywordEach kws X.env))) := by rfl) :
    PE X (.Call (.Attribute o m apos) (e :: es) kws pos) (tMethX C m pt.1 pt.2.1.length sp pt.2.2 W ta t tk) := by
  obtain ⟨f, fd, ps, hc, hm, F, b⟩ := c.ex
  refine ⟨fun pins s σ H Q I h => ?_⟩
  refine PySem.W.methodCall_KW (pl := pl) (thn (he.run pins s σ H _ I h) fun u s1 ⟨x, H1, I1, rx, a, dx, fs, ex, ea, l, q⟩ => ?_) ht
  subst ex
  obtain rfl : u = Value.ref a := rx
  refine getmeth_ok I1 ea hc hm l ?_
  refine PySem.W.callWith_KW (first := [.ref a]) (h₀ := X.base) I.ok.mod.kin hm.kp hall (thn (ha.run pos pins s1 σ H1 _ I1 q) fun us s2 ⟨vs, H2, I2, r, q2⟩ => ?_) hpl hst
  refine thn (hkw.run pos pins s2 σ H2 _ I2 q2) fun ws s3 ⟨zs, H3, I3, rz, l1, l2, q3⟩ => ⟨I3.kIn, ?_⟩
  rw [hks]
  exact run_X (us := .ref a :: us) (vs := .ref a :: vs) F (hr.low hk) (b pt hpt) tkW I3 (.cons rfl r) rz l1 l2 q3
theorem vx_methX0 {pats : List Pat} {pl : Sem Bool} (c : MetX X.prog X.w X.K X.mg X.base k C m sp pats) (pt : Pat) (hpt : pt ∈ pats) (hr : RoomG j X.A) (hk : k ≤ j) (tkW : Takes X W) (he : PE X o ta) (hks : pt.2.1 = [] := by rfl)
    (ht : eval (.Call (.Attribute o m apos) [] [] pos) X.env = (do
      let ov ← eval o X.env
      standAt apos.atName
      let (f, first) ← holding [ov] (getMethod ov m pl)
      callWith pos f first (backTo pos (starEach [] X.env)) (backToKw pos (keywordEach [] X.env))) := by rfl) :
    PE X (.Call (.Attribute o m apos) [] [] pos) (tMethX C m pt.1 pt.2.1.length sp pt.2.2 W ta tNil tNil) := by
  obtain ⟨f, fd, ps, hc, hm, F, b⟩ := c.ex
  refine ⟨fun pins s σ H Q I h => ?_⟩
  refine PySem.W.methodCall_KW (pl := pl) (thn (he.run pins s σ H _ I h) fun u s1 ⟨x, H1, I1, rx, a, dx, fs, ex, ea, l, q⟩ => ?_) ht
  subst ex
  obtain rfl : u = Value.ref a := rx
  refine getmeth_ok I1 ea hc hm l ?_
  obtain ⟨l1, l2, q3⟩ := q
  have hz := run_X (us := [.ref a]) (vs := [.ref a]) (ws := []) F (hr.low hk) (b pt hpt) tkW I1 (.cons rfl .nil) .nil l1 l2 q3
  rw [hks] at hz
  exact PySem.W.callWith_K0 (first := [.ref a]) I1.kIn hm.kp hz
theorem vx_propX {pats : List Pat} (c : PropY X.prog X.w X.K X.mg X.base k C m sp pats) (hr : RoomG j X.A) (hk : k + 1 ≤ j) (he : PE X o ta) (hab : attributeBase o m X.env (eval o X.env) = eval o X.env := by rfl) : PE X (.Attribute o m pos) (tProp C sp [] E0 ta) := by
  obtain ⟨q, f, fd, ps, cls, prop, F, bind⟩ := c.ex
  constructor
  intro pins s σ H Q I h
  refine attr_of hab (thn (he.run pins s σ H _ I h) ?_)
  rintro u s1 ⟨x, H1, I1, rx, a, dx, fs, rfl, ea, prom⟩
  cases rx
  obtain ⟨mA, O, _⟩ := ins_get I1.hok ea
  obtain ⟨od, J, _⟩ := O.look
  obtain ⟨rest, rec_⟩ := prop.rec_
  have short : [Value.ref a].length = ps.length := (F.len _ _ _ _ prom).symm ▸ rfl
  have isCls : (PySem.W.clsIn X.K C).isSome = true := by
    obtain ⟨cd, e, _⟩ := PySem.W.any_some cls.hd
    rw [e]
    rfl
  refine PySem.W.get_bind I1.kIn J (PySem.W.plainGet_of (cls.get m)).1 (PySem.W.findObj_data isCls prop.at_ prop.get prop.tak) (PySem.W.plainGet_of (cls.get m)).2 (wpAny_call (PySem.W.prop_get (s := { s1 with toks := s1.toks + 1 }) I1.kIn rec_ ?_))
  have I2 := I1.tok (s1.toks + 1)
  refine codeAny_mono (F.run X.A.in1 X.stack _ H1 ⟨[.ref a], []⟩ [.ref a] [.ref a] Q E0 (hr.low hk).one I2.env0.in1 (by simpa using bind _ [.ref a] I2.kIn (by simpa using short)) (.cons rfl .nil) prom) ?_
  intro r s2 out
  cases r with
  | error er => exact (passL (X := X.nox) pins σ H1 _ er s2 (I2.wish _) out).elim
  | ok flow =>
    cases flow with
    | ret v =>
      obtain ⟨y, H2, I3, ry, qy⟩ := I2.after out
      have given := PySem.W.handedOut_of (handed_of ry)
      show wpAny _ _ (handedOut v) _ _ s2
      rw [given]
      exact wpAny_pure ⟨y, H2, I3, ry, qy⟩
    | next => exact out.elim
    | brk => exact out.elim
    | cont => exact out.elim
end
theorem Sep.news {M : List Addr} {H0 G0 G H H' : Hp} {O : List Addr} (S : Sep M H0 G0 G H O) (e : Same H H') (L : List Addr) (hL : ∀ a ∈ L, H a = none ∧ H' a ≠ none ∧ H0 a = none) : Sep M H0 G0 G H' (L ++ O) := by
  have S2 := S.same e
  refine ⟨S2.base, S2.pm, S2.sG, S2.g0, S2.gn, fun a ha => ?_⟩
  rcases List.mem_append.mp ha with h | h
  · obtain ⟨h1, h2, h3⟩ := hL a h
    exact ⟨S.gfree h1, h2, .inr h3⟩
  · exact S2.ow a h
theorem vv_chain {r r' : R2} {ta tb tc : TE} {σ : L2.St} {H : Hp} {x y z : V} {a b : Bool} (ha : Val ta σ H x) (hb : Val tb σ H y) (hc : Val tc σ H z) (h1 : ∀ Q : VK, Q (.bl a) H → r x y H Q) (h2 : ∀ Q : VK, Q (.bl b) H → r' y z H Q) :
    Val (tChain r r' ta tb tc) σ H (.bl (a && b)) := fun Q q => ha _ (hb _ (h1 _ ⟨a, rfl, by
  cases a with
  | true =>
    rw [if_pos rfl]
    exact hc _ (h2 _ q)
  | false =>
    rw [if_neg Bool.false_ne_true]
    exact q⟩))
/-! ### constants that are tuples, lists backwards, zip -/
theorem inV_ints (x : Int) : ∀ xs : List Int, inV (V.int x) (xs.map V.int) = decide (x ∈ xs)
  | [] => by simp [inV]
  | y :: r => by
    have h := inV_ints x r
    unfold inV at h ⊢
    rw [List.map_cons, List.any_cons, h]
    by_cases c : x = y
    · subst c
      simp [eqV]
    · simp [eqV, c, Ne.symm c]
theorem flat_ints : ∀ xs : List Int, (xs.map V.int).all flatV = true
  | [] => rfl
  | _ :: r => flat_ints r
def rInI (K : PySem.W.Frag) : R2 := fun x y H Q => ∃ (i : Int) (p : Addr) (xs : List Int), x = .int i ∧ y = .ref p ∧ (SqL K H p (xs.map V.int) ∨ SqT K H p (xs.map V.int)) ∧ Q (.bl (decide (i ∈ xs))) H
def rNotInI (K : PySem.W.Frag) : R2 := fun x y H Q => ∃ (i : Int) (p : Addr) (xs : List Int), x = .int i ∧ y = .ref p ∧ (SqL K H p (xs.map V.int) ∨ SqT K H p (xs.map V.int)) ∧ Q (.bl (!decide (i ∈ xs))) H
theorem op_inI {X : Cx} {K : PySem.W.Frag} (hK : X.K = K := by rfl) : OpR X (compareOp .In) (rInI K) := by
  subst hK
  intro pins s σ H x y v u Q I rx ry h
  obtain ⟨i, p, xs, rfl, rfl, hs, q⟩ := h
  refine op_in_seq pins s σ H _ _ v u Q I rx ry ⟨p, _, rfl, hs, rfl, flat_ints xs, ?_⟩
  rw [if_neg Bool.false_ne_true, inV_ints]
  exact q
theorem op_notInI {X : Cx} {K : PySem.W.Frag} (hK : X.K = K := by rfl) : OpR X (compareOp .NotIn) (rNotInI K) := by
  subst hK
  intro pins s σ H x y v u Q I rx ry h
  obtain ⟨i, p, xs, rfl, rfl, hs, q⟩ := h
  refine op_notIn_seq pins s σ H _ _ v u Q I rx ry ⟨p, _, rfl, hs, rfl, flat_ints xs, ?_⟩
  rw [if_pos rfl, inV_ints]
  exact q
theorem pe_revLK {X : Cx} {K : PySem.W.Frag} {e : Expr} {te : TE} {k : Nat} {p1 p2 p3 pos : Pos} (he : PE X e te) (hK : X.K = K := by rfl) : PE X (.Subscript e (.Slice none none (some (.UnaryOp .USub (.Constant (.int 1) k p1) p2)) p3) pos) (tRevL K te) := hK ▸ pe_revL he
theorem rev_map {α : Type} {f : α → V} {xs : List α} {H : Hp} {p : Addr} (h : H p = some (.lst (xs.map f).reverse)) : H p = some (.lst (xs.reverse.map f)) := by
  rw [List.map_reverse]
  exact h
theorem RpAll.rev {G : Hp} : ∀ {vs : List V} {ds : List PyData}, RpAll G vs ds → RpAll G vs.reverse ds.reverse
  | _, _, .nil => .nil
  | _, _, .cons h t => by
    rw [List.reverse_cons, List.reverse_cons]
    exact (RpAll.rev t).append (.one h)
theorem rev_all {α : Type} {f : α → PyData} {xs : List α} {G : Hp} {vs : List V} (a : RpAll G vs (xs.map f)) : RpAll G vs.reverse (xs.reverse.map f) := by
  rw [List.map_reverse]
  exact a.rev
theorem pi_zipK {X : Cx} {K : PySem.W.Frag} {e e2 : Expr} {ta : TA} {p pos tpos : Pos} {elts : List Expr} {kk : Nat} (hg : Gl X "zip") (hm : X.mg "zip" = none) (ha : PA X [e, e2] ta) (hK : X.K = K := by rfl)
    (hs : starEach [e, e2] X.env = (false, eval e X.env) :: starEach [e2] X.env := by rfl) (hpl : (backTo pos (starEach [e2] X.env)).any (·.1) = false := by rfl) :
    PI X (.Tuple elts kk tpos) (.Call (.Name "zip" p) [e, e2] [] pos) (RZ.iZipA K ta) := hK ▸ RZ.pi_zipA hg hm ha hs hpl
/-- a comprehension over zip of two lists of one length -/
theorem lc_zipL {K : PySem.W.Frag} {a b : Addr} {xs ys : List V} {g : TG} {tt : TT} {te : TE} {vs : List Nat} {σ : L2.St} {H1 : Hp} {D : Addr} {Qd : Hp → Prop} (hl : xs.length = ys.length) (Pv : Nat → Hp → Prop) (h0 : Pv 0 (upd H1 D (.lst []))) (hq : ∀ i H, i ≤ xs.length → Pv i H → SqL K H a xs ∧ SqL K H b ys)
    (hs : ∀ (i : Nat) (x y : V) (T : Addr) (H : Hp), xs[i]? = some x → ys[i]? = some y → H T = none → Pv i H → g (.ref T) (wipe σ vs) (upd H T (.tup [x, y])) fun σ2 H2 => wipe σ2 vs = wipe σ vs ∧ tt σ2 H2 fun b H3 =>
      if b = true then te σ2 H3 fun y H4 => ∃ acc, H4 D = some (.lst acc) ∧ acc.length < sizeLine ∧ Pv (i + 1) (upd H4 D (.lst (acc ++ [y]))) else Pv (i + 1) H3) (hd : ∀ H, Pv xs.length H → Qd H) :
    ∃ W : Nat → Nat → Hp → Prop, (∃ m, W 0 m (upd H1 D (.lst []))) ∧ ∀ i m H, W i m H →
      ((Itz K a b).stop i H ∧ Qd H) ∨ ((Itz K a b).go i H ∧ ∃ Nx : Hp → Prop, (∀ H', Nx H' → ∃ m', m' < m ∧ W (i + 1) m' H') ∧ ∀ x H', (Itz K a b).yld i H x H' → g x (wipe σ vs) H' fun σ2 H2 => wipe σ2 vs = wipe σ vs ∧ tt σ2 H2 fun b H3 =>
        if b = true then te σ2 H3 fun y H4 => ∃ acc, H4 D = some (.lst acc) ∧ acc.length < sizeLine ∧ Nx (upd H4 D (.lst (acc ++ [y]))) else Nx H3) := by
  refine ⟨fun i m H => m = xs.length - i ∧ i ≤ xs.length ∧ Pv i H, ⟨xs.length, by simp, Nat.zero_le _, h0⟩, ?_⟩
  rintro i m H ⟨rfl, hi, p⟩
  obtain ⟨qx, qy⟩ := hq i H hi p
  by_cases hlt : i < xs.length
  · have hlt2 : i < ys.length := by omega
    refine .inr ⟨⟨xs, ys, xs[i], ys[i], qx, qy, List.getElem?_eq_getElem hlt, List.getElem?_eq_getElem hlt2⟩, Pv (i + 1), fun H' p' => ⟨xs.length - (i + 1), by omega, rfl, hlt, p'⟩, fun v H' y => ?_⟩
    obtain ⟨T, x', y', rfl, hT, rfl, f1, f2⟩ := y
    exact hs i x' y' T H (f1 xs qx) (f2 ys qy) hT p
  · have e : i = xs.length := by omega
    subst e
    exact .inl ⟨⟨xs, ys, qx, qy, Or.inl (Nat.le_refl _)⟩, hd H p⟩
theorem zip_get {α β : Type} {xs : List α} {ys : List β} {i : Nat} {x : α} {y : β} (h1 : xs[i]? = some x) (h2 : ys[i]? = some y) : (xs.zip ys)[i]? = some (x, y) := by
  rw [List.getElem?_zip_eq_some]
  exact ⟨h1, h2⟩
theorem zip_len {α β : Type} {xs : List α} {ys : List β} {n : Nat} (h : xs.length = ys.length) (e : n = xs.length) : n = (xs.zip ys).length := by
  rw [List.length_zip, ← h, Nat.min_self]
  exact e
theorem zlen {α β : Type} {vs ws : List V} {xs : List α} {ys : List β} (a : vs.length = xs.length) (b : ws.length = ys.length) (h : xs.length = ys.length) : vs.length = ws.length := by rw [a, b, h]
section
variable {t : TT} {ta tb : TE} {σ : L2.St} {H : Hp}
theorem vv_ifP {p : Prop} [Decidable p] {a b : Int} (ht : Ans t σ H (decide p)) (hx : p → Val ta σ H (.int a)) (hy : ¬ p → Val tb σ H (.int b)) : Val (tIf t ta tb) σ H (.int (if p then a else b)) := by
  by_cases h : p
  · have := vv_if (p := p) (a := a) (b := a) ht (hx h) (tb := ta) (hx h)
    intro Q q
    refine ht _ ?_
    rw [decide_eq_true h, if_pos rfl]
    rw [if_pos h] at q
    exact hx h _ q
  · intro Q q
    refine ht _ ?_
    rw [decide_eq_false h, if_neg Bool.false_ne_true]
    rw [if_neg h] at q
    exact hy h _ q
theorem vv_ifQ {c : Bool} {a b : Int} (ht : Ans t σ H c) (hx : c = true → Val ta σ H (.int a)) (hy : c = false → Val tb σ H (.int b)) : Val (tIf t ta tb) σ H (.int (if c = true then a else b)) := by
  intro Q q
  refine ht _ ?_
  cases c with
  | true =>
    rw [if_pos rfl]
    rw [if_pos rfl] at q
    exact hx rfl _ q
  | false =>
    rw [if_neg Bool.false_ne_true]
    rw [if_neg Bool.false_ne_true] at q
    exact hy rfl _ q
end
theorem kit_mk0 {K : PySem.W.Frag} {S C : Addr} (h1 : (Value.ref S == Value.ref C) = false) (h2 : PySem.W.isClsIn K C = true) (h3 : PySem.W.typeIn K (.ref C) = some (.type "type")) (h4 : PySem.W.subIn K (.ref S) (.ref C) = some false) :
    PySem.W.kitOne K (.ref S) (.ref C) = some false := by
  unfold PySem.W.isClsIn at h2
  unfold PySem.W.kitOne
  rw [if_neg (by rw [h1]; exact Bool.false_ne_true)]
  unfold PySem.W.kitCls
  simp only [h2, h3, h4, beq_self_eq_true, Bool.and_self, if_true]
theorem vv_call2 {ta tb : TE} {σ : L2.St} {H : Hp} {x y z : V} {r : List V → Hp → VK → Prop} (ha : Val ta σ H x) (hb : Val tb σ H y) (hr : ∀ Q : VK, Q z H → r [x, y] H Q) : Val (tCB r (tCons ta (tCons tb tNil))) σ H z := fun Q q => ha _ (hb _ (hr Q q))
/-! ### lists of data that the caller owns; values that are a truth value or a number -/
theorem Sep.stepnew {M : List Addr} {H0 G0 G H H' : Hp} {O : List Addr} {p : Addr} {o : HO} (S : Sep M H0 G0 G H O) {G' : Hp} (e : Same H H') (eG : Same G G') (sG : Same G' H') (hn : ∀ b, H b ≠ none → G b = none → G' b = none) (_n : H p = none) (h : H' p = some o) (g : G' p = none) (hm : H0 p = none) : Sep M H0 G0 G' H' (p :: O) := by
  have S2 := S.step e eG sG hn
  refine ⟨S2.base, S2.pm, S2.sG, S2.g0, S2.gn, fun a ha => ?_⟩
  rcases List.mem_cons.mp ha with rfl | ha
  · exact ⟨g, (fun z => by rw [z] at h; cases h), .inr hm⟩
  · exact S2.ow a ha
inductive Bi where
  | b (x : Bool)
  | n (i : Int)
deriving DecidableEq
def biV : Bi → V
  | .b x => .bl x
  | .n i => .int i
def Bi.el {α : Type} (v : Bi) (f : Bool → α) (g : Int → α) : α :=
  match v with
  | .b x => f x
  | .n i => g i
theorem cW_elb {α : Type} {x : Bool} {f : Bool → Rx α} {g : Int → Rx α} {K : α → Prop} {E : Nat → Prop} (h : cW (Bi.el (.b x) f g) K E) : cW (f x) K E := h
theorem cW_eln {α : Type} {x : Int} {f : Bool → Rx α} {g : Int → Rx α} {K : α → Prop} {E : Nat → Prop} (h : cW (Bi.el (.n x) f g) K E) : cW (g x) K E := h
theorem rp_tup4 {α β γ δ : Type} {f : α → PyData} {g : β → PyData} {h : γ → PyData} {i : δ → PyData} {H : Hp} {v : V} {x : α × β × γ × δ} (r : Rp H v (encT4 f g h i x)) : ∃ a v1 v2 v3 v4, v = .ref a ∧ H a = some (.tup [v1, v2, v3, v4]) ∧ Rp H v1 (f x.1) ∧ Rp H v2 (g x.2.1) ∧ Rp H v3 (h x.2.2.1) ∧ Rp H v4 (i x.2.2.2) := by
  unfold encT4 at r
  cases r with
  | tup h1 h2 =>
    cases h2 with
    | cons a b =>
      cases b with
      | cons b c =>
        cases c with
        | cons c d =>
          cases d with
          | cons d e =>
            cases e
            exact ⟨_, _, _, _, _, rfl, h1, a, b, c, d⟩
theorem rp_mk4 {α β γ δ : Type} {f : α → PyData} {g : β → PyData} {h : γ → PyData} {i : δ → PyData} {H : Hp} {a : Addr} {v1 v2 v3 v4 : V} {x : α} {y : β} {z : γ} {w : δ} (h1 : H a = some (.tup [v1, v2, v3, v4])) (r1 : Rp H v1 (f x)) (r2 : Rp H v2 (g y)) (r3 : Rp H v3 (h z)) (r4 : Rp H v4 (i w)) : Rp H (.ref a) (encT4 f g h i (x, y, z, w)) := .tup h1 (.cons r1 (.cons r2 (.cons r3 (.cons r4 .nil))))
theorem Sep.b0M {M : List Addr} {H0 G0 G H : Hp} {O : List Addr} (S : Sep M H0 G0 G H O) (h : ∀ a ∈ M, H a = H0 a) : Same H0 H := fun b o e => by
  by_cases z : b ∈ M
  · rw [h b z]
    exact e
  · exact S.base b o e z
section
variable {X : Cx} {k j n : Nat} {f C : Addr} {fd : FuncData} {ps ks : List Str} {g : List V → List V → List V} {sp : Sp} {x m : Str} {pos p apos : Pos} {e o : Expr} {es : List Expr} {kws : List Keyword} {ta : TE} {t tk : TA} {W : WX}
/-- keywords alone -/
theorem vx_makeXK {pats : List Pat} (c : MakX X.prog X.w X.K X.mg X.base k x C sp pats) (pt : Pat) (hpt : pt ∈ pats) (hr : RoomG j X.A) (hk : k + 1 ≤ j) (tkW : Takes X W) (hg : Gl X x) (hkw : PK X kws tk)
    (hall : (backToKw pos (keywordEach kws X.env)).all (·.1.isSome) = true := by rfl) (hks : (backToKw pos (keywordEach kws X.env)).filterMap (·.1) = pt.2.1 := by rfl) (hdb : (x == ("__debug__" : Str)) = false := by decide)
    (hpl : ((backTo pos (starEach [] X.env)).any (·.1) || (backToKw pos (keywordEach kws X.env)).any (·.1.isNone)) = false := by rfl) :
    PE X (.Call (.Name x p) [] kws pos) (tMakeX C pt.1 pt.2.1.length sp pt.2.2 W tNil tk) := by
  obtain ⟨f, fd, ps, M, F, hm, b⟩ := c.ex
  refine ⟨fun pins s σ H Q I h => ?_⟩
  refine wpAny_Call_Name_kw (ld_glob I hg hm ?_ hdb)
  refine PySem.W.callWith_KW0 (h₀ := X.base) I.ok.mod.kin M.kp hall ?_ hpl
  refine thn (hkw.run pos pins s σ H _ I h) fun ws s2 ⟨zs, H2, I2, rz, l1, l2, q2⟩ => ⟨I2.kIn, ?_⟩
  rw [hks]
  exact run_mkX (us := []) (vs := []) M F (hr.low hk) (b pt hpt) tkW I2 .nil rz l1 l2 q2
theorem vx_callXK {pats : List Pat} (c : CalX X.prog X.w X.K X.mg X.base k x sp pats) (pt : Pat) (hpt : pt ∈ pats) (hr : RoomG j X.A) (hk : k ≤ j) (tkW : Takes X W) (hg : Gl X x) (hkw : PK X kws tk)
    (hall : (backToKw pos (keywordEach kws X.env)).all (·.1.isSome) = true := by rfl) (hks : (backToKw pos (keywordEach kws X.env)).filterMap (·.1) = pt.2.1 := by rfl) (hdb : (x == ("__debug__" : Str)) = false := by decide)
    (hpl : ((backTo pos (starEach [] X.env)).any (·.1) || (backToKw pos (keywordEach kws X.env)).any (·.1.isNone)) = false := by rfl) :
    PE X (.Call (.Name x p) [] kws pos) (tCallX pt.1 pt.2.1.length sp pt.2.2 W tNil tk) := by
  obtain ⟨f, fd, ps, F, hm, kp, b⟩ := c.ex
  refine ⟨fun pins s σ H Q I h => ?_⟩
  refine wpAny_Call_Name_kw (ld_glob I hg hm ?_ hdb)
  refine PySem.W.callWith_KW0 (h₀ := X.base) I.ok.mod.kin kp hall ?_ hpl
  refine thn (hkw.run pos pins s σ H _ I h) fun ws s2 ⟨zs, H2, I2, rz, l1, l2, q2⟩ => ⟨I2.kIn, ?_⟩
  rw [hks]
  exact run_X (us := []) (vs := []) F (hr.low hk) (b pt hpt) tkW I2 .nil rz l1 l2 q2
theorem vx_methXK {pats : List Pat} {pl : Sem Bool} (c : MetX X.prog X.w X.K X.mg X.base k C m sp pats) (pt : Pat) (hpt : pt ∈ pats) (hr : RoomG j X.A) (hk : k ≤ j) (tkW : Takes X W) (he : PE X o ta) (hkw : PK X kws tk)
    (hall : (backToKw pos (keywordEach kws X.env)).all (·.1.isSome) = true := by rfl) (hks : (backToKw pos (keywordEach kws X.env)).filterMap (·.1) = pt.2.1 := by rfl)
    (hpl : ((backTo pos (starEach [] X.env)).any (·.1) || (backToKw pos (keywordEach kws X.env)).any (·.1.isNone)) = false := by rfl)
    (ht : eval (.Call (.Attribute o m apos) [] kws pos) X.env = (do
      let ov ← eval o X.env
      standAt apos.atName
      let (f, first) ← holding [ov] (getMethod ov m pl)
      callWith pos f first (backTo pos (starEach [] X.env)) (backToKw pos (keywordEach kws X.env))) := by rfl) :
    PE X (.Call (.Attribute o m apos) [] kws pos) (tMethX C m pt.1 pt.2.1.length sp pt.2.2 W ta tNil tk) := by
  obtain ⟨f, fd, ps, hc, hm, F, b⟩ := c.ex
  refine ⟨fun pins s σ H Q I h => ?_⟩
  refine PySem.W.methodCall_KW (pl := pl) (thn (he.run pins s σ H _ I h) fun u s1 ⟨x, H1, I1, rx, a, dx, fs, ex, ea, l, q⟩ => ?_) ht
  subst ex
  obtain rfl : u = Value.ref a := rx
  refine getmeth_ok I1 ea hc hm l ?_
  refine PySem.W.callWith_KW0 (first := [.ref a]) (h₀ := X.base) I.ok.mod.kin hm.kp hall ?_ hpl
  refine thn (hkw.run pos pins s1 σ H1 _ I1 q) fun ws s3 ⟨zs, H3, I3, rz, l1, l2, q3⟩ => ⟨I3.kIn, ?_⟩
  rw [hks]
  exact run_X (us := [.ref a]) (vs := [.ref a]) F (hr.low hk) (b pt hpt) tkW I3 (.cons rfl .nil) rz l1 l2 q3
end
end Vx
/-! # lists within lists that are owned as a whole -/
namespace Vx
open PySem PySem.Spec PyProof.Rows L2
inductive Kd where
  | lst
  | tup
  | ins (C dx : Addr) (ns : List Str)
def Kd.ho : Kd → List V → HO
  | .lst, vs => .lst vs
  | .tup, vs => .tup vs
  | .ins C dx ns, vs => .ins C dx (ns.zip vs)
/-- what stands in the heap as a tree: values as they are, data that stay, nodes of its own -/
inductive Dt where
  | val (v : V)
  | frz (d : PyData)
  | nod (k : Kd) (xs : List Dt)
mutual
inductive Ow (G H : Hp) : List Addr → V → Dt → Prop
  | val (v : V) : Ow G H [] v (.val v)
  | frz {v : V} {d : PyData} : Rp G v d → Ow G H [] v (.frz d)
  | nod {a : Addr} {k : Kd} {vs : List V} {ds : List Dt} {L : List Addr} : H a = some (k.ho vs) → OwAll G H L vs ds → a ∉ L → Ow G H (a :: L) (.ref a) (.nod k ds)
inductive OwAll (G H : Hp) : List Addr → List V → List Dt → Prop
  | nil : OwAll G H [] [] []
  | cons {L1 L2 : List Addr} {v : V} {vs : List V} {d : Dt} {ds : List Dt} : Ow G H L1 v d → OwAll G H L2 vs ds → (∀ b ∈ L1, b ∉ L2) → OwAll G H (L1 ++ L2) (v :: vs) (d :: ds)
end
def Keeps (L : List Addr) (H H' : Hp) : Prop := ∀ b ∈ L, ∀ o, H b = some o → H' b = some o
mutual
theorem Ow.mono {G G' H H' : Hp} (e : Same G G') : ∀ {L : List Addr} {v : V} {d : Dt}, Keeps L H H' → Ow G H L v d → Ow G' H' L v d
  | _, _, _, _, .val v => .val v
  | _, _, _, _, .frz r => .frz (r.mono e)
  | _, _, _, k, .nod h r n => .nod (k _ List.mem_cons_self _ h) (OwAll.mono e (fun b hb => k b (List.mem_cons_of_mem _ hb)) r) n
theorem OwAll.mono {G G' H H' : Hp} (e : Same G G') : ∀ {L : List Addr} {vs : List V} {ds : List Dt}, Keeps L H H' → OwAll G H L vs ds → OwAll G' H' L vs ds
  | _, _, _, _, .nil => .nil
  | _, _, _, k, .cons a r d => .cons (Ow.mono e (fun b hb => k b (List.mem_append_left _ hb)) a) (OwAll.mono e (fun b hb => k b (List.mem_append_right _ hb)) r) d
end
mutual
theorem Ow.there {G H : Hp} : ∀ {L : List Addr} {v : V} {d : Dt}, Ow G H L v d → ∀ b ∈ L, H b ≠ none
  | _, _, _, .val _, _, hb => nomatch hb
  | _, _, _, .frz _, _, hb => nomatch hb
  | _, _, _, .nod h r n, b, hb => by
    rcases List.mem_cons.mp hb with rfl | hb
    · exact some_ne h
    · exact OwAll.there r b hb
theorem OwAll.there {G H : Hp} : ∀ {L : List Addr} {vs : List V} {ds : List Dt}, OwAll G H L vs ds → ∀ b ∈ L, H b ≠ none
  | _, _, _, .nil, _, hb => nomatch hb
  | _, _, _, .cons a r d, b, hb => by
    rcases List.mem_append.mp hb with hb | hb
    · exact Ow.there a b hb
    · exact OwAll.there r b hb
end
theorem OwAll.len {G H : Hp} : ∀ {L : List Addr} {vs : List V} {ds : List Dt}, OwAll G H L vs ds → vs.length = ds.length
  | _, _, _, .nil => rfl
  | _, _, _, .cons _ r _ => congrArg Nat.succ r.len
theorem OwAll.snoc {G H : Hp} {L1 : List Addr} {v : V} {d : Dt} (h : Ow G H L1 v d) : ∀ {L : List Addr} {vs : List V} {ds : List Dt}, OwAll G H L vs ds → (∀ b ∈ L, b ∉ L1) → OwAll G H (L ++ L1) (vs ++ [v]) (ds ++ [d])
  | _, _, _, .nil, _ => by
    have z : OwAll G H (L1 ++ []) [v] [d] := .cons h .nil (fun _ _ z => nomatch z)
    rw [List.append_nil] at z
    exact z
  | _, _, _, .cons (L1 := La) (L2 := Lb) a r n, k => by
    have z := OwAll.cons a (OwAll.snoc h r fun b hb => k b (List.mem_append_right _ hb)) (fun b hb q => by
      rcases List.mem_append.mp q with q | q
      · exact n b hb q
      · exact k b (List.mem_append_left _ hb) q)
    rw [← List.append_assoc] at z
    exact z
theorem OwAll.app {G H : Hp} {L2 : List Addr} {ws : List V} {es : List Dt} (h : OwAll G H L2 ws es) : ∀ {L : List Addr} {vs : List V} {ds : List Dt}, OwAll G H L vs ds → (∀ b ∈ L, b ∉ L2) → OwAll G H (L ++ L2) (vs ++ ws) (ds ++ es)
  | _, _, _, .nil, _ => h
  | _, _, _, .cons (L1 := La) (L2 := Lb) a r n, k => by
    have z := OwAll.cons a (OwAll.app h r fun b hb => k b (List.mem_append_right _ hb)) (fun b hb q => by
      rcases List.mem_append.mp q with q | q
      · exact n b hb q
      · exact k b (List.mem_append_left _ hb) q)
    rw [← List.append_assoc] at z
    exact z
/-! ### trees that are data -/
mutual
inductive Dd : Dt → PyData → Prop
  | non : Dd (.val .non) .none
  | bl (b : Bool) : Dd (.val (.bl b)) (.bool b)
  | int (i : Int) : Dd (.val (.int i)) (.int i)
  | str (x : Str) : Dd (.val (.str x)) (.str x)
  | frz (d : PyData) : Dd (.frz d) d
  | lst {xs : List Dt} {ds : List PyData} : DdAll xs ds → Dd (.nod .lst xs) (.list ds)
  | tup {xs : List Dt} {ds : List PyData} : DdAll xs ds → Dd (.nod .tup xs) (.tuple ds)
inductive DdAll : List Dt → List PyData → Prop
  | nil : DdAll [] []
  | cons {x : Dt} {xs : List Dt} {d : PyData} {ds : List PyData} : Dd x d → DdAll xs ds → DdAll (x :: xs) (d :: ds)
end
mutual
/-- read in any heap that holds its nodes -/
theorem Ow.rp {G H I : Hp} (e : Same G I) : ∀ {L : List Addr} {v : V} {d : Dt} {p : PyData}, Keeps L H I → Ow G H L v d → Dd d p → Rp I v p
  | _, _, _, _, _, .val _, .non => .non
  | _, _, _, _, _, .val _, .bl b => .bl b
  | _, _, _, _, _, .val _, .int i => .int i
  | _, _, _, _, _, .val _, .str x => .str x
  | _, _, _, _, _, .frz r, .frz _ => r.mono e
  | _, _, _, _, k, .nod h r _, .lst q => .lst (k _ List.mem_cons_self _ h) (OwAll.rp e (fun b hb => k b (List.mem_cons_of_mem _ hb)) r q)
  | _, _, _, _, k, .nod h r _, .tup q => .tup (k _ List.mem_cons_self _ h) (OwAll.rp e (fun b hb => k b (List.mem_cons_of_mem _ hb)) r q)
theorem OwAll.rp {G H I : Hp} (e : Same G I) : ∀ {L : List Addr} {vs : List V} {ds : List Dt} {ps : List PyData}, Keeps L H I → OwAll G H L vs ds → DdAll ds ps → RpAll I vs ps
  | _, _, _, _, _, .nil, .nil => .nil
  | _, _, _, _, k, .cons a r _, .cons x xs => .cons (Ow.rp e (fun b hb => k b (List.mem_append_left _ hb)) a x) (OwAll.rp e (fun b hb => k b (List.mem_append_right _ hb)) r xs)
end
def oI (i : Int) : Dt := .val (.int i)
def oB (b : Bool) : Dt := .val (.bl b)
def oF {α : Type} (f : α → PyData) (x : α) : Dt := .frz (f x)
def oL {α : Type} (f : α → Dt) (xs : List α) : Dt := .nod .lst (xs.map f)
def EncO {α : Type} (f : α → Dt) (g : α → PyData) : Prop := ∀ x, Dd (f x) (g x)
theorem encO_I : EncO oI PyData.int := fun i => .int i
theorem encO_B : EncO oB PyData.bool := fun i => .bl i
theorem encO_F {α : Type} {f : α → PyData} : EncO (oF f) f := fun _ => .frz _
theorem EncO.all {α : Type} {f : α → Dt} {g : α → PyData} (h : EncO f g) : ∀ xs : List α, DdAll (xs.map f) (xs.map g)
  | [] => .nil
  | x :: xs => .cons (h x) (EncO.all h xs)
theorem encO_L {α : Type} {f : α → Dt} {g : α → PyData} (h : EncO f g) : EncO (oL f) (encL g) := fun xs => .lst (h.all xs)
theorem keeps_same {L : List Addr} {H H' : Hp} (e : Same H H') : Keeps L H H' := fun b _ o q => e b o q
theorem keeps_refl {L : List Addr} {H : Hp} : Keeps L H H := fun _ _ _ q => q
theorem keeps_mut {L : List Addr} {H H' : Hp} {m : Addr} (x : SameX m H H') (n : ∀ b ∈ L, b ≠ m) : Keeps L H H' := fun b hb o q => x b o q (n b hb)
theorem keeps_muts {L M : List Addr} {H H' : Hp} (x : SameXs M H H') (n : ∀ b ∈ L, b ∉ M) : Keeps L H H' := fun b hb o q => x b o q (n b hb)
theorem keeps_hide {L M : List Addr} {H : Hp} (n : ∀ b ∈ L, b ∉ M) : Keeps L H (hideL M H) := fun b hb o q => by
  rw [hideL_out (n b hb)]
  exact q
section
variable {α : Type} {f : α → Dt} {g : α → PyData} {G H I : Hp} {L : List Addr} {vs : List V} {xs : List α}
theorem OwAll.rpA (w : OwAll G H L vs (xs.map f)) (h : EncO f g) (e : Same G H) : RpAll H vs (xs.map g) := OwAll.rp e keeps_refl w (h.all xs)
theorem OwAll.rpH (w : OwAll G H L vs (xs.map f)) (h : EncO f g) (e : Same G I) (k : Keeps L H I) : RpAll I vs (xs.map g) := OwAll.rp e k w (h.all xs)
theorem OwAll.lenM (w : OwAll G H L vs (xs.map f)) : vs.length = xs.length := by rw [w.len, List.length_map]
theorem OwAll.snocM {L1 : List Addr} {v : V} {y : α} (w : OwAll G H L vs (xs.map f)) (h : Ow G H L1 v (f y)) (n : ∀ b ∈ L, b ∉ L1) : OwAll G H (L ++ L1) (vs ++ [v]) ((xs ++ [y]).map f) := by
  rw [List.map_append]
  exact OwAll.snoc h w n
theorem Ow.ints {a : Addr} {ys : List Int} (h : H a = some (.lst (ys.map V.int))) : Ow G H [a] (.ref a) (oL oI ys) := by
  have z : ∀ ys : List Int, OwAll G H [] (ys.map V.int) (ys.map oI) := fun ys => by
    induction ys with
    | nil => exact .nil
    | cons y r ih => exact .cons (L1 := []) (L2 := []) (.val _) ih (fun _ z => nomatch z)
  exact .nod (k := .lst) h (z ys) (fun z => nomatch z)
theorem Ow.list {a : Addr} {xs : List α} {L : List Addr} {vs : List V} (h : H a = some (.lst vs)) (w : OwAll G H L vs (xs.map f)) (n : ∀ b ∈ L, b ≠ a) : Ow G H (a :: L) (.ref a) (oL f xs) := .nod (k := .lst) h w (fun z => n a z rfl)
theorem Ow.toList {v : V} {L : List Addr} {xs : List α} (w : Ow G H L v (oL f xs)) : ∃ a vs L', v = .ref a ∧ L = a :: L' ∧ H a = some (.lst vs) ∧ OwAll G H L' vs (xs.map f) ∧ ∀ b ∈ L', b ≠ a := by
  unfold oL at w
  cases w with
  | nod h r n => exact ⟨_, _, _, rfl, rfl, h, r, fun b hb z => n (z ▸ hb)⟩
theorem OwAll.toInts : ∀ {L : List Addr} {vs : List V} {xs : List Int}, OwAll G H L vs (xs.map oI) → L = [] ∧ vs = xs.map V.int
  | _, _, [], .nil => ⟨rfl, rfl⟩
  | _, _, x :: xs, .cons a r _ => by
    obtain ⟨h1, h2⟩ := OwAll.toInts r
    cases a
    exact ⟨by rw [h1] <;> rfl, by rw [h2] <;> rfl⟩
theorem Ow.toInts {v : V} {L : List Addr} {xs : List Int} (w : Ow G H L v (oL oI xs)) : ∃ a, v = .ref a ∧ L = [a] ∧ H a = some (.lst (xs.map V.int)) := by
  obtain ⟨a, vs, L', rfl, rfl, h, r, _⟩ := w.toList
  obtain ⟨rfl, rfl⟩ := r.toInts
  exact ⟨a, rfl, rfl, h⟩
/-- the part at a place, and how a change of it alone changes the whole -/
theorem OwAll.part : ∀ {L : List Addr} {vs : List V} {ds : List Dt} {i : Nat} {d : Dt}, OwAll G H L vs ds → ds[i]? = some d → ∃ v L1, vs[i]? = some v ∧ Ow G H L1 v d ∧ (∀ b ∈ L1, b ∈ L) ∧
    ∀ H' d', (∀ b ∈ L, b ∉ L1 → ∀ o, H b = some o → H' b = some o) → Ow G H' L1 v d' → OwAll G H' L vs (ds.set i d')
  | _, _, _, _, _, .nil, h => by simp at h
  | _, _, _, 0, _, .cons (L1 := La) (L2 := Lb) a r n, h => by
    simp at h
    subst h
    refine ⟨_, La, rfl, a, fun b hb => List.mem_append_left _ hb, fun H' d' k w => ?_⟩
    exact .cons w (OwAll.mono (Same.refl G) (fun b hb => k b (List.mem_append_right _ hb) fun z => n b z hb) r) n
  | _, _, _, i + 1, _, .cons (L1 := La) (L2 := Lb) a r n, h => by
    obtain ⟨v, L1, h1, h2, h3, h4⟩ := OwAll.part (i := i) r (by simpa using h)
    refine ⟨v, L1, by simpa using h1, h2, fun b hb => List.mem_append_right _ (h3 b hb), fun H' d' k w => ?_⟩
    refine .cons (Ow.mono (Same.refl G) (fun b hb => k b (List.mem_append_left _ hb) fun z => n b hb (h3 b z)) a) (h4 H' d' (fun b hb nb => k b (List.mem_append_right _ hb) nb) w) n
/-- the same, where the part grows: its new footprint is the old one and what is new -/
theorem OwAll.part2 : ∀ {L : List Addr} {vs : List V} {ds : List Dt} {i : Nat} {d : Dt}, OwAll G H L vs ds → ds[i]? = some d → ∃ v L1, vs[i]? = some v ∧ Ow G H L1 v d ∧ (∀ b ∈ L1, b ∈ L) ∧
    (∀ H' d', (∀ b ∈ L, b ∉ L1 → ∀ o, H b = some o → H' b = some o) → Ow G H' L1 v d' → OwAll G H' L vs (ds.set i d')) ∧
    ∀ H' d' Fv L1', (∀ b ∈ L, b ∉ L1 → ∀ o, H b = some o → H' b = some o) → (∀ b ∈ L1', b ∈ L1 ++ Fv) → (∀ b ∈ Fv, b ∉ L) → Ow G H' L1' v d' → ∃ L', (∀ b ∈ L', b ∈ L ++ Fv) ∧ OwAll G H' L' vs (ds.set i d')
  | _, _, _, _, _, .nil, h => by simp at h
  | _, _, _, 0, _, .cons (L1 := La) (L2 := Lb) a r n, h => by
    simp at h
    subst h
    refine ⟨_, La, rfl, a, fun b hb => List.mem_append_left _ hb, fun H' d' k w => ?_, fun H' d' Fv L1' k s nf w => ⟨L1' ++ Lb, fun b hb => ?_, ?_⟩⟩
    · exact .cons w (OwAll.mono (Same.refl G) (fun b hb => k b (List.mem_append_right _ hb) fun z => n b z hb) r) n
    · rcases List.mem_append.mp hb with hb | hb
      · rcases List.mem_append.mp (s b hb) with q | q
        · exact List.mem_append_left _ (List.mem_append_left _ q)
        · exact List.mem_append_right _ q
      · exact List.mem_append_left _ (List.mem_append_right _ hb)
    · refine .cons w (OwAll.mono (Same.refl G) (fun b hb => k b (List.mem_append_right _ hb) fun z => n b z hb) r) fun b hb q => ?_
      rcases List.mem_append.mp (s b hb) with z | z
      · exact n b z q
      · exact nf b z (List.mem_append_right _ q)
  | _, _, _, i + 1, _, .cons (L1 := La) (L2 := Lb) a r n, h => by
    obtain ⟨v, L1, h1, h2, h3, h4, h5⟩ := OwAll.part2 (i := i) r (by simpa using h)
    refine ⟨v, L1, by simpa using h1, h2, fun b hb => List.mem_append_right _ (h3 b hb), fun H' d' k w => ?_, fun H' d' Fv L1' k s nf w => ?_⟩
    · refine .cons (Ow.mono (Same.refl G) (fun b hb => k b (List.mem_append_left _ hb) fun z => n b hb (h3 b z)) a) (h4 H' d' (fun b hb nb => k b (List.mem_append_right _ hb) nb) w) n
    · obtain ⟨L', s2, z⟩ := h5 H' d' Fv L1' (fun b hb nb => k b (List.mem_append_right _ hb) nb) s (fun b hb q => nf b hb (List.mem_append_right _ q)) w
      refine ⟨La ++ L', fun b hb => ?_, .cons (Ow.mono (Same.refl G) (fun b hb => k b (List.mem_append_left _ hb) fun z => n b hb (h3 b z)) a) z fun b hb q => ?_⟩
      · rcases List.mem_append.mp hb with hb | hb
        · exact List.mem_append_left _ (List.mem_append_left _ hb)
        · rcases List.mem_append.mp (s2 b hb) with q | q
          · exact List.mem_append_left _ (List.mem_append_right _ q)
          · exact List.mem_append_right _ q
      · rcases List.mem_append.mp (s2 b q) with y | y
        · exact n b hb y
        · exact nf b y (List.mem_append_left _ hb)
theorem OwAll.partM [Inhabited α] {k : Int} (w : OwAll G H L vs (xs.map f)) (h : -(xs.length : Int) ≤ k ∧ k < xs.length) : ∃ v L1, atI vs k = some v ∧ Ow G H L1 v (f (itD xs k)) ∧ (∀ b ∈ L1, b ∈ L) ∧
    (∀ H' y, (∀ b ∈ L, b ∉ L1 → ∀ o, H b = some o → H' b = some o) → Ow G H' L1 v (f y) → OwAll G H' L vs ((setL xs k y).map f)) ∧
    ∀ H' y Fv L1', (∀ b ∈ L, b ∉ L1 → ∀ o, H b = some o → H' b = some o) → (∀ b ∈ L1', b ∈ L1 ++ Fv) → (∀ b ∈ Fv, b ∉ L) → Ow G H' L1' v (f y) → ∃ L', (∀ b ∈ L', b ∈ L ++ Fv) ∧ OwAll G H' L' vs ((setL xs k y).map f) := by
  obtain ⟨j, e, hj⟩ := ixN_some h
  have hx := List.getElem?_eq_getElem hj
  obtain ⟨v, L1, h1, h2, h3, h4, h5⟩ := OwAll.part2 (i := j) (d := f xs[j]) w (by rw [List.getElem?_map, hx] <;> rfl)
  have ei : itD xs k = xs[j] := by
    unfold itD atI
    rw [e]
    show (xs[j]?).getD default = _
    rw [hx] <;> rfl
  refine ⟨v, L1, ?_, by rw [ei]; exact h2, h3, fun H' y q w2 => ?_, fun H' y Fv L1' q s nf w2 => ?_⟩
  · unfold atI
    rw [w.lenM, e]
    exact h1
  · have z := h4 H' (f y) q w2
    unfold setL
    rw [e, List.map_set]
    exact z
  · obtain ⟨L', s2, z⟩ := h5 H' (f y) Fv L1' q s nf w2
    refine ⟨L', s2, ?_⟩
    unfold setL
    rw [e, List.map_set]
    exact z
theorem grow_keeps {L L1 : List Addr} {m : Addr} {H H1 H2 : Hp} (e : Same H H1) (x : SameX m H1 H2) (hm : m ∈ L1) : ∀ b ∈ L, b ∉ L1 → ∀ o, H b = some o → H2 b = some o := fun b _ n o q => x b o (e b o q) (fun z => n (z ▸ hm))
theorem grow_sub {a : Addr} {L' Lr Fv : List Addr} (h : ∀ b ∈ L', b ∈ Lr ++ Fv) : ∀ b ∈ a :: L', b ∈ (a :: Lr) ++ Fv := fun b hb => by
  rcases List.mem_cons.mp hb with rfl | hb
  · exact List.mem_cons_self
  · exact List.mem_cons_of_mem _ (h b hb)
/-- the item of a turn -/
theorem OwAll.turn {i : Nat} {v : V} (w : OwAll G H L vs (xs.map f)) (h : vs[i]? = some v) : ∃ x L1, xs[i]? = some x ∧ Ow G H L1 v (f x) ∧ ∀ b ∈ L1, b ∈ L := by
  have hl := get_len h
  have e := w.lenM
  have hx := List.getElem?_eq_getElem (show i < xs.length by omega)
  obtain ⟨v2, L1, h1, h2, h3, _⟩ := OwAll.part (i := i) (d := f xs[i]) w (by rw [List.getElem?_map, hx] <;> rfl)
  rw [h] at h1
  cases h1
  exact ⟨_, L1, hx, h2, h3⟩
end
/-! ### what is owned, in pieces -/
theorem all_app {P : Addr → Prop} {L l : List Addr} (h : ∀ x ∈ L, P x) (t : ∀ x ∈ l, P x) : ∀ x ∈ L ++ l, P x := fun x hx => by
  rcases List.mem_append.mp hx with q | q
  · exact h x q
  · exact t x q
theorem nm_nil {a : Addr} : a ∉ ([] : List Addr) := fun z => nomatch z
theorem nm_cons {a m : Addr} {l : List Addr} (h : a ≠ m) (t : a ∉ l) : a ∉ m :: l := fun z => by
  rcases List.mem_cons.mp z with q | q
  · exact h q
  · exact t q
theorem nm_app {a : Addr} {L l : List Addr} (h : a ∉ L) (t : a ∉ l) : a ∉ L ++ l := fun z => by
  rcases List.mem_append.mp z with q | q
  · exact h q
  · exact t q
theorem there_ne {H : Hp} {L : List Addr} {x : Addr} (t : ∀ b ∈ L, H b ≠ none) (n : H x = none) : ∀ b ∈ L, b ≠ x := fun b hb z => t b hb (z ▸ n)
theorem new_ne {H : Hp} {L : List Addr} {x : Addr} {o : HO} (n : ∀ b ∈ L, H b = none) (h : H x = some o) : ∀ b ∈ L, b ≠ x := fun b hb z => by
  have := n b hb
  rw [z, h] at this
  cases this
theorem new_nl {H : Hp} {L L2 : List Addr} (n : ∀ b ∈ L, H b = none) (t : ∀ b ∈ L2, H b ≠ none) : ∀ b ∈ L, b ∉ L2 := fun b hb z => t b z (n b hb)
theorem nl_symm {L L2 : List Addr} (h : ∀ b ∈ L, b ∉ L2) : ∀ b ∈ L2, b ∉ L := fun b hb z => h b z hb
theorem none_of_same {H H' : Hp} {x : Addr} (e : Same H H') (n : H' x = none) : H x = none := by
  cases q : H x with
  | none => rfl
  | some o =>
    rw [e x o q] at n
    cases n
section
variable {M : List Addr} {H0 G0 G H H' : Hp} {O L : List Addr} {p m : Addr} {o : HO}
theorem Sep.h0 (S : Sep M H0 G0 G H O) {b : Addr} (hb : b ∈ O) (hM : b ∉ M) : H0 b = none := (S.ow b hb).2.2.elim (fun z => (hM z).elim) id
theorem g_nl {a : Addr} {o : HO} (h : G a = some o) (S : Sep M H0 G0 G H O) (hL : ∀ b ∈ L, b ∈ O) : ∀ b ∈ L, b ≠ a := fun b hb => (g_ne h S (hL b hb)).symm
theorem b_nl {a : Addr} {o : HO} (h : (hideL M H0) a = some o) (S : Sep M H0 G0 G H O) (hL : ∀ b ∈ L, b ∈ O) : ∀ b ∈ L, b ≠ a := fun b hb => (b_ne h S (hL b hb)).symm
/-- a whole tree that is to stay as it is -/
theorem Sep.freezeL (S : Sep M H0 G0 G H O) {O' : List Addr} (hL : ∀ b ∈ L, b ∈ O) (h0 : ∀ b ∈ L, H0 b = none) (hO : ∀ b ∈ O', b ∈ O ∧ b ∉ L) : ∃ G', Same G G' ∧ Keeps L H G' ∧ Sep M H0 G0 G' H O' := by
  have gn : ∀ b ∈ L, G b = none := fun b hb => (S.ow b (hL b hb)).1
  refine ⟨fun b => if b ∈ L then H b else G b, fun b u q => ?_, fun b hb u q => ?_, S.base, S.pm, fun b u q => ?_, fun b u q => ?_, fun b hb gb => ?_, fun a ha => ?_⟩
  · have n : b ∉ L := fun z => by
      rw [gn b z] at q
      cases q
    show (if b ∈ L then H b else G b) = _
    rw [if_neg n]
    exact q
  · show (if b ∈ L then H b else G b) = _
    rw [if_pos hb]
    exact q
  · by_cases z : b ∈ L
    · exact (if_pos z).symm.trans q
    · exact S.sG b u ((if_neg z).symm.trans q)
  · have z : b ∉ L := fun z => by
      have := S.g0 b u q
      rw [gn b z] at this
      cases this
    show (if b ∈ L then H b else G b) = _
    rw [if_neg z]
    exact S.g0 b u q
  · have z : b ∉ L := fun z => hb (h0 b z)
    show (if b ∈ L then H b else G b) = _
    rw [if_neg z]
    exact S.gn b hb gb
  · obtain ⟨h1, h2⟩ := hO a ha
    refine ⟨?_, (S.ow a h1).2⟩
    show (if a ∈ L then H a else G a) = _
    rw [if_neg h2]
    exact (S.ow a h1).1
/-- a callee hands over a list of lists of its own making -/
theorem Sep.steptree (S : Sep M H0 G0 G H O) {G' : Hp} (e : Same H H') (eG : Same G G') (sG : Same G' H') (hn : ∀ b, H b ≠ none → G b = none → G' b = none) (L : List Addr) (hL : ∀ b ∈ L, H b = none ∧ G' b = none ∧ H' b ≠ none) : Sep M H0 G0 G' H' (L ++ O) := by
  have S2 := S.step e eG sG hn
  refine ⟨S2.base, S2.pm, S2.sG, S2.g0, S2.gn, all_app (fun b hb => ⟨(hL b hb).2.1, (hL b hb).2.2, .inr (S.free (hL b hb).1)⟩) S2.ow⟩
end
theorem Rp.list_of {α : Type} {g : α → PyData} {H : Hp} {a : Addr} {vs : List V} {xs : List α} (h : H a = some (.lst vs)) (r : RpAll H vs (xs.map g)) : Rp H (.ref a) (encL g xs) := .lst h r
/-! ### repr of data -/
mutual
def nodes : PyData → Nat
  | .list xs => 1 + nodesAll xs
  | .tuple xs => 1 + nodesAll xs
  | _ => 1
def nodesAll : List PyData → Nat
  | [] => 0
  | x :: xs => nodes x + nodesAll xs
end
mutual
def smallD : PyData → Bool
  | .none => true
  | .bool _ => true
  | .int i => decide (i.natAbs < 10 ^ 19)
  | .str x => decide ((reprText x).length ≤ 20)
  | .list xs => smallAll xs
  | .tuple xs => smallAll xs
  | _ => false
def smallAll : List PyData → Bool
  | [] => true
  | x :: xs => smallD x && smallAll xs
end
theorem piled_list (ts : List Str) : (listText ts).length ≤ piled ts + 2 := by
  cases ts with
  | nil => exact Nat.le_refl 2
  | cons t r =>
    have e : (listText (t :: r)).length = (textFrom 1 ("[" ++ ("" : String) ++ t) r).length + 1 := by
      show (textFrom 0 "[" (t :: r) ++ "]").length = _
      rw [strLen_append]
      rfl
    rw [e, textFrom_length_pos r 1 _ (by decide), piled_cons, strLen_append, strLen_append]
    have h1 : (("[" : String) : Str).length = 1 := rfl
    have h2 : (("" : String) : Str).length = 0 := rfl
    omega
theorem piled_tup (ts : List Str) : (tupleText ts).length ≤ piled ts + 3 := by
  unfold tupleText
  rw [strLen_append, strLen_append]
  have h1 : (("(" : String) : Str).length = 1 := rfl
  have h2 : (((if ts.length == 1 then ",)" else ")" : String) : Str)).length ≤ 2 := by split <;> decide
  by_cases h : ts = []
  · subst h
    exact Nat.le_of_lt (by decide)
  · have := join_length_add ts h
    omega
mutual
theorem small_shown : ∀ d : PyData, smallD d = true → d.shown.length + 4 ≤ 26 * nodes d ∧ d.showable = true ∧ d.hasDict = false
  | .none, _ => ⟨by simp only [PyData.shown, nodes]; decide, by simp [PyData.showable], by simp [PyData.hasDict]⟩
  | .bool b, _ => ⟨by cases b <;> simp only [PyData.shown, nodes] <;> decide, by simp [PyData.showable], by simp [PyData.hasDict]⟩
  | .int i, h => by
    have h : i.natAbs < 10 ^ 19 := by simpa [smallD] using h
    refine ⟨?_, ?_, by simp [PyData.hasDict]⟩
    · have := int_text_length_le10 (k := 19) (by decide) h
      simp only [PyData.shown, nodes]
      rw [PySem.ofString_length]
      omega
    · simp only [PyData.showable, decide_eq_true_eq]
      have : i.natAbs < 2 ^ 64 := by omega
      rcases Nat.eq_zero_or_pos i.natAbs with z | z
      · rw [z]
        decide
      · have := (Nat.log2_lt (by omega)).mpr this
        omega
  | .str x, h => by
    have h : (reprText x).length ≤ 20 := by simpa [smallD] using h
    refine ⟨by simp only [PyData.shown, nodes]; omega, by simp [PyData.showable], by simp [PyData.hasDict]⟩
  | .list xs, h => by
    obtain ⟨h1, h2, h3⟩ := small_shownAll xs (by simpa [smallD] using h)
    refine ⟨?_, by simpa [PyData.showable] using h2, by simpa [PyData.hasDict] using h3⟩
    have := piled_list (PyData.shownAll xs)
    simp only [PyData.shown, nodes]
    omega
  | .tuple xs, h => by
    obtain ⟨h1, h2, h3⟩ := small_shownAll xs (by simpa [smallD] using h)
    refine ⟨?_, by simpa [PyData.showable] using h2, by simpa [PyData.hasDict] using h3⟩
    have := piled_tup (PyData.shownAll xs)
    simp only [PyData.shown, nodes]
    omega
  | .dict kvs, h => by simp [smallD] at h
theorem small_shownAll : ∀ ds : List PyData, smallAll ds = true → piled (PyData.shownAll ds) ≤ 26 * nodesAll ds ∧ PyData.showableAll ds = true ∧ PyData.hasDictAll ds = false
  | [], _ => ⟨by simp [PyData.shownAll, nodesAll, piled], by simp [PyData.showableAll], by simp [PyData.hasDictAll]⟩
  | d :: ds, h => by
    have h : smallD d = true ∧ smallAll ds = true := by simpa [smallAll] using h
    obtain ⟨a1, a2, a3⟩ := small_shown d h.1
    obtain ⟨b1, b2, b3⟩ := small_shownAll ds h.2
    refine ⟨?_, by simp [PyData.showableAll, a2, b2], by simp [PyData.hasDictAll, a3, b3]⟩
    simp only [PyData.shownAll, nodesAll, piled_cons]
    omega
end
/-- data that repr may show -/
def ShowOk (d : PyData) : Prop := smallD d = true ∧ nodes d ≤ 600000 ∧ d.depth ≤ 60
instance (d : PyData) : Decidable (ShowOk d) := by unfold ShowOk; infer_instance
def rRepr : List V → Hp → VK → Prop := fun xs H Q => ∃ (a : Addr) (d : PyData), xs = [.ref a] ∧ Rp H (.ref a) d ∧ ShowOk d ∧ Q (.str d.shown) H
theorem call_reprD {X : Cx} (hg : X.A.guards = some []) (hu : X.A.units + 64 < cLine) : CallR X (.builtin "repr") rRepr := by
  intro pins s σ H xs us Q I r h
  obtain ⟨a, d, rfl, rp, ⟨ok, nd, dp⟩, q⟩ := h
  obtain ⟨h1, h2, h3⟩ := small_shown d ok
  cases r with
  | cons ra rn =>
    cases rn
    cases ra
    obtain ⟨as, reads⟩ := Dp.reads I d _ _ rp.dp rfl
    refine repr_of_reads' reads h2 (PyData.noDict_hsm h3) hg (by omega) (fun _ _ e => e) (fun h' u tk k => ⟨.str d.shown, H, I.kept k, ⟨u, rfl⟩, q⟩) ?_
    show d.shown.length ≤ 2 ^ 24
    omega
/-- small data: nodes, depth -/
def Sm (n k : Nat) (d : PyData) : Prop := smallD d = true ∧ nodes d ≤ n ∧ d.depth ≤ k
theorem Sm.imp {n k n' k' : Nat} {d : PyData} (h : Sm n k d) (a : n ≤ n') (b : k ≤ k') : Sm n' k' d := ⟨h.1, Nat.le_trans h.2.1 a, Nat.le_trans h.2.2 b⟩
theorem Sm.show {n k : Nat} {d : PyData} (h : Sm n k d) (a : n ≤ 600000 := by decide) (b : k ≤ 60 := by decide) : ShowOk d := h.imp a b
theorem sm_non : Sm 1 0 .none := ⟨by simp [smallD], by simp [nodes], by simp [PyData.depth]⟩
theorem sm_bool (b : Bool) : Sm 1 0 (.bool b) := ⟨by simp [smallD], by simp [nodes], by simp [PyData.depth]⟩
theorem sm_int {i : Int} (h : -10000000000000000000 < i ∧ i < 10000000000000000000) : Sm 1 0 (.int i) := ⟨by simp only [smallD, decide_eq_true_eq]; omega, by simp [nodes], by simp [PyData.depth]⟩
theorem sm_all {α : Type} {f : α → PyData} {n k : Nat} : ∀ {xs : List α}, (∀ x ∈ xs, Sm n k (f x)) → smallAll (xs.map f) = true ∧ nodesAll (xs.map f) ≤ xs.length * n ∧ PyData.depthAll (xs.map f) ≤ k
  | [], _ => ⟨by simp [smallAll], by simp [nodesAll], by simp [PyData.depthAll]⟩
  | x :: xs, h => by
    obtain ⟨a1, a2, a3⟩ := h x List.mem_cons_self
    obtain ⟨b1, b2, b3⟩ := sm_all fun y hy => h y (List.mem_cons_of_mem _ hy)
    refine ⟨by simp [smallAll, a1, b1], ?_, ?_⟩
    · simp only [List.map_cons, nodesAll, List.length_cons, Nat.succ_mul]
      omega
    · simp only [List.map_cons, PyData.depthAll]
      omega
theorem sm_L {α : Type} {f : α → PyData} {n k m : Nat} {xs : List α} (h : ∀ x ∈ xs, Sm n k (f x)) (hm : xs.length ≤ m) : Sm (1 + m * n) (k + 1) (encL f xs) := by
  obtain ⟨a1, a2, a3⟩ := sm_all h
  refine ⟨by simp [encL, smallD, a1], ?_, ?_⟩
  · have := Nat.mul_le_mul_right n hm
    simp only [encL, nodes]
    omega
  · simp only [encL, PyData.depth]
    omega
theorem sm_ints {xs : List Int} {m : Nat} (h : ∀ x ∈ xs, -10000000000000000000 < x ∧ x < 10000000000000000000) (hm : xs.length ≤ m) : Sm (1 + m * 1) 1 (encL PyData.int xs) := sm_L (fun x hx => sm_int (h x hx)) hm
theorem sm_T2 {α β : Type} {f : α → PyData} {g : β → PyData} {n k m j : Nat} {p : α × β} (h1 : Sm n k (f p.1)) (h2 : Sm m j (g p.2)) : Sm (1 + n + m) (max k j + 1) (encT2 f g p) := by
  obtain ⟨a1, a2, a3⟩ := h1
  obtain ⟨b1, b2, b3⟩ := h2
  refine ⟨by simp [encT2, smallD, smallAll, a1, b1], ?_, ?_⟩
  · simp only [encT2, nodes, nodesAll]
    omega
  · simp only [encT2, PyData.depth, PyData.depthAll]
    omega
theorem sm_T3 {α β γ : Type} {f : α → PyData} {g : β → PyData} {h : γ → PyData} {n k m j l i : Nat} {p : α × β × γ} (h1 : Sm n k (f p.1)) (h2 : Sm m j (g p.2.1)) (h3 : Sm l i (h p.2.2)) : Sm (1 + n + m + l) (max k (max j i) + 1) (encT3 f g h p) := by
  obtain ⟨a1, a2, a3⟩ := h1
  obtain ⟨b1, b2, b3⟩ := h2
  obtain ⟨c1, c2, c3⟩ := h3
  refine ⟨by simp [encT3, smallD, smallAll, a1, b1, c1], ?_, ?_⟩
  · simp only [encT3, nodes, nodesAll]
    omega
  · simp only [encT3, PyData.depth, PyData.depthAll]
    omega
end Vx
namespace Vx
open PySem PySem.Spec PyProof.Rows L2
theorem new_ne2 {H : Hp} {L : List Addr} {x : Addr} (n : ∀ b ∈ L, H b = none) (h : H x ≠ none) : ∀ b ∈ L, b ≠ x := fun b hb z => h (z ▸ n b hb)
theorem upd_tree {α : Type} {f : α → Dt} {G H H' : Hp} {L L1 : List Addr} {vs : List V} {xs : List α} {k : Int} {v : V} {m : Addr} {y : α} (up : ∀ H' y, (∀ b ∈ L, b ∉ L1 → ∀ o, H b = some o → H' b = some o) → Ow G H' L1 v (f y) → OwAll G H' L vs ((setL xs k y).map f)) (x : SameX m H H') (hm : m ∈ L1) (w : Ow G H' L1 v (f y)) :
    OwAll G H' L vs ((setL xs k y).map f) := up H' y (fun c _ n o q => x c o q (fun z => n (z ▸ hm))) w
theorem Ow.toFrz {α : Type} {f : α → PyData} {G H : Hp} {L : List Addr} {v : V} {x : α} (w : Ow G H L v (oF f x)) : L = [] ∧ Rp G v (f x) := by
  unfold oF at w
  cases w with
  | frz r => exact ⟨rfl, r⟩
section
variable {α : Type} {f : α → Dt} {G H : Hp} {L : List Addr} {vs : List V} {xs : List α}
theorem OwAll.pin {i : Nat} {v : V} {x : α} (w : OwAll G H L vs (xs.map f)) (h : vs[i]? = some v) (hx : xs[i]? = some x) : ∃ L1, Ow G H L1 v (f x) ∧ ∀ b ∈ L1, b ∈ L := by
  obtain ⟨y, L1, h1, h2, h3⟩ := OwAll.turn w h
  rw [hx] at h1
  cases h1
  exact ⟨L1, h2, h3⟩
theorem OwAll.pinInts {i : Nat} {b : Addr} {xs : List (List Int)} {x : List Int} (w : OwAll G H L vs (xs.map (oL oI))) (h : vs[i]? = some (.ref b)) (hx : xs[i]? = some x) : H b = some (.lst (x.map V.int)) ∧ b ∈ L := by
  obtain ⟨L1, w1, h1⟩ := OwAll.pin w h hx
  obtain ⟨c, e, rfl, h2⟩ := Ow.toInts w1
  cases e
  exact ⟨h2, h1 _ List.mem_cons_self⟩
end
end Vx
namespace Vx
open PySem PySem.Spec PyProof.Rows L2
theorem lookup_relab {c : Str → Bool} {y : Str} : ∀ l : List (Str × NameKind), (l.lookup y = some .cell ∨ l.lookup y = some .free) →
    ((l.map fun (n, k) => if (k == .free && c n) then (n, NameKind.cell) else (n, k)).lookup y = some .cell ∨ (l.map fun (n, k) => if (k == .free && c n) then (n, NameKind.cell) else (n, k)).lookup y = some .free)
  | [], h => by simp at h
  | (n, k) :: r, h => by
    rw [List.map_cons]
    dsimp only
    by_cases e : y == n
    · have hk : k = .cell ∨ k = .free := by
        rw [List.lookup_cons, e] at h
        simpa using h
      by_cases q : (k == .free && c n) = true
      · left
        rw [if_pos q, List.lookup_cons, e]
      · rw [if_neg q, List.lookup_cons, e]
        simpa using hk
    · have e : (y == n) = false := by simpa using e
      rw [List.lookup_cons, e] at h
      have ih := lookup_relab (c := c) r h
      by_cases q : (k == .free && c n) = true
      · rw [if_pos q, List.lookup_cons, e]
        exact ih
      · rw [if_neg q, List.lookup_cons, e]
        exact ih
theorem blk_relabel {N : List Str} {sc scope : Scope} {env : Env} {own : List (Str × Nat)} (h : BlkOk N sc scope own) : BlkOk N (relabel sc env) scope own := by
  refine ⟨h.kind, h.uniq, h.ix, fun y hy e => ?_, h.own⟩
  have z := lookup_relab (c := fun n => env.scope.kind == .function && env.kindOf n == some .cell) (y := y.1) sc.names (h.free y hy e)
  unfold relabel
  simpa only [Bool.and_assoc] using z
end Vx
namespace Vx
open PySem PySem.Spec PyProof.Rows L2
theorem FnG.low {P : Program} {w : World} {K : PySem.W.Frag} {mg : Str → Option Value} {base : Heap} {cx : CXT} {j k : Nat} {f : Addr} {fd : FuncData} {ps : List Str} {sp : Sp} (F : FnG P w K mg base cx j f fd ps sp) (h : j ≤ k) : FnG P w K mg base cx k f fd ps sp := ⟨F.len, fun A o s H a us vs Q E r => F.run A o s H a us vs Q E (r.low h)⟩
/-! ### a local name that holds one of several defs -/
structure HeldX (P : Program) (w : World) (K : PySem.W.Frag) (mg : Str → Option Value) (base : Heap) (k n : Nat) (f : Addr) (sp : Sp) : Prop where
  ex : ∃ (fd : FuncData) (ps : List Str), FnG P w K mg base (L2.CX P w) k f fd ps sp ∧ PySem.W.keepIn K (.ref f) = true ∧ Bnd K fd ps n [] (fun vs _ => vs)
theorem HeldX.of {P : Program} {w : World} {K : PySem.W.Frag} {mg : Str → Option Value} {base : Heap} {j k n : Nat} {x : Str} {sp : Sp} {pats : List Pat} {a : Addr} (c : CalX P w K mg base j x sp pats) (hx : mg x = some (.ref a)) (hp : (n, [], fun vs _ => vs) ∈ pats) (hj : j ≤ k) : HeldX P w K mg base k n a sp := by
  obtain ⟨f, fd, ps, F, hm, kp, b⟩ := c.ex
  rw [hx] at hm
  injection hm with hm
  injection hm with hm
  subst hm
  exact ⟨fd, ps, F.low hj, kp, b _ hp⟩
def tCallF (i n : Nat) (L : List (Addr × Sp)) (W : WX) (t : TA) : TE := fun σ H Q => ∃ f sp, σ[i]? = some (some (.ref f)) ∧ (f, sp) ∈ L ∧ t σ H fun vs H1 => vs.length = n ∧ ([] : List V).length = 0 ∧ sp vs H1 Q (WE W σ)
theorem vx_callF {X : Cx} {k j i n : Nat} {x : Str} {p pos : Pos} {e : Expr} {es : List Expr} {t : TA} {W : WX} (L : List (Addr × Sp)) (A : ∀ q ∈ L, HeldX X.prog X.w X.K X.mg X.base k n q.1 q.2) (hr : RoomG j X.A) (hk : k ≤ j) (tkW : Takes X W) (hN : X.N[i]? = some x) (hv : Vis X.env.scope x) (ha : PA X (e :: es) t)
    (hdb : (x == ("__debug__" : Str)) = false := by decide) (hcd : (x == ("__classdict__" : Str)) = false := by decide) (he : starEach (e :: es) X.env = (false, eval e X.env) :: starEach es X.env := by rfl) (hpl : (backTo pos (starEach es X.env)).any (·.1) = false := by rfl) :
    PE X (.Call (.Name x p) (e :: es) [] pos) (tCallF i n L W t) := by
  constructor
  intro pins s σ H Q I h
  obtain ⟨f, sp, slot, mem, rest⟩ := h
  obtain ⟨fd, ps, F, kp, b⟩ := (A _ mem).ex
  refine wpAny_Call_Name_kw (thn ((pe_var (pos := p) hN hv hdb hcd).run pins s σ H (fun v H1 => v = .ref f ∧ H1 = H) I ⟨.ref f, slot, rfl, rfl⟩) ?_)
  rintro u s1 ⟨v, H1, I1, r1, rfl, rfl⟩
  cases r1
  refine PySem.W.callWith_K (h₀ := X.base) I.ok.mod.kin kp (thn (ha.run pos pins s1 σ _ _ I1 rest) ?_) he hpl
  rintro us s2 ⟨vs, H2, I2, r, l1, l2, q⟩
  exact ⟨I2.kIn, run_X (us := us) (ws := []) (zs := []) F (hr.low hk) b tkW I2 r .nil l1 l2 q⟩
/-! ### the least of a list, the place of an item -/
def minL : List Int → Int
  | [] => 0
  | [x] => x
  | x :: y :: r => if x ≤ minL (y :: r) then x else minL (y :: r)
theorem minL_spec : ∀ (xs : List Int), xs ≠ [] → minL xs ∈ xs ∧ ∀ y ∈ xs, minL xs ≤ y
  | [], h => absurd rfl h
  | [x], _ => ⟨List.mem_cons_self, fun y hy => by rw [List.mem_singleton.mp hy]; exact Int.le_refl x⟩
  | x :: y :: r, _ => by
    obtain ⟨h1, h2⟩ := minL_spec (y :: r) (fun z => nomatch z)
    unfold minL
    split
    · refine ⟨List.mem_cons_self, fun z hz => ?_⟩
      rcases List.mem_cons.mp hz with rfl | hz
      · exact Int.le_refl _
      · have := h2 z hz
        omega
    · refine ⟨List.mem_cons_of_mem _ h1, fun z hz => ?_⟩
      rcases List.mem_cons.mp hz with rfl | hz
      · omega
      · exact h2 z hz
def maxL (xs : List Int) : Int := -(minL (xs.map fun x => -x))
theorem maxL_spec (xs : List Int) (h : xs ≠ []) : maxL xs ∈ xs ∧ ∀ y ∈ xs, y ≤ maxL xs := by
  obtain ⟨h1, h2⟩ := minL_spec (xs.map fun x => -x) (by simpa using h)
  obtain ⟨z, hz, e⟩ := List.mem_map.mp h1
  unfold maxL
  refine ⟨by rw [← e, Int.neg_neg]; exact hz, fun y hy => ?_⟩
  have := h2 _ (List.mem_map_of_mem hy)
  omega
section
variable {X : Cx} {K : PySem.W.Frag}
def rMinL (K : PySem.W.Frag) : List V → Hp → VK → Prop := fun vs H Q => ∃ (a : Addr) (ns : List Int), vs = [V.ref a] ∧ SqL K H a (ns.map V.int) ∧ ns ≠ [] ∧ Q (.int (minL ns)) H
def rMaxL (K : PySem.W.Frag) : List V → Hp → VK → Prop := fun vs H Q => ∃ (a : Addr) (ns : List Int), vs = [V.ref a] ∧ SqL K H a (ns.map V.int) ∧ ns ≠ [] ∧ Q (.int (maxL ns)) H
theorem cr_minL (hc : X.calm = true) (hK : X.K = K := by rfl) : CallR X (.builtin "min") (rMinL K) := by
  subst hK
  intro pins s σ H vs us Q I r h
  obtain ⟨a, ns, rfl, hs, hn, q⟩ := h
  refine cr_min hc pins s σ H _ us Q I r ⟨a, ns, rfl, hs, List.length_pos_iff.mpr hn, fun m hm hle => ?_⟩
  obtain ⟨h1, h2⟩ := minL_spec ns hn
  have e : m = minL ns := Int.le_antisymm (by have := hle _ h1; omega) (h2 m hm)
  rw [e]
  exact q
theorem cr_maxL (hc : X.calm = true) (hK : X.K = K := by rfl) : CallR X (.builtin "max") (rMaxL K) := by
  subst hK
  intro pins s σ H vs us Q I r h
  obtain ⟨a, ns, rfl, hs, hn, q⟩ := h
  refine cr_max hc pins s σ H _ us Q I r ⟨a, ns, rfl, hs, List.length_pos_iff.mpr hn, fun m hm hle => ?_⟩
  obtain ⟨h1, h2⟩ := maxL_spec ns hn
  have e : m = maxL ns := Int.le_antisymm (h2 m hm) (by have := hle _ h1; omega)
  rw [e]
  exact q
end
end Vx
namespace Vx
open PySem PySem.Spec PyProof.Rows L2
def idxL (ns : List Int) (i : Int) : Int := (ns.idxOf i : Nat)
def rIndexI (K : PySem.W.Frag) : V → List V → Hp → VK → Prop := fun x xs H Q => ∃ (a : Addr) (ns : List Int) (i : Int), x = V.ref a ∧ xs = [.int i] ∧ SqL K H a (ns.map V.int) ∧ i ∈ ns ∧ Q (.int (idxL ns i)) H
theorem mt_indexI {X : Cx} {K : PySem.W.Frag} (hK : X.K = K := by rfl) : MtR X "list.index" (rIndexI K) := by
  subst hK
  intro pins s σ H x xs v us Q I rx rxs h
  obtain ⟨a, ns, i, rfl, rfl, hs, hi, q⟩ := h
  have hl := List.idxOf_lt_length_of_mem hi
  refine mt_index pins s σ H _ _ v us Q I rx rxs ⟨a, _, .int i, ns.idxOf i, .int i, rfl, rfl, hs, rfl, flat_ints ns, ?_, by simp [eqV], fun m z hm hz => ?_, q⟩
  · rw [List.getElem?_map, List.getElem?_eq_getElem hl, List.getElem_idxOf hl] <;> rfl
  · rw [List.getElem?_map] at hz
    cases e : ns[m]? with
    | none => rw [e] at hz; cases hz
    | some y =>
      rw [e] at hz
      cases hz
      have hml : m < ns.length := by omega
      have hy : ns[m] = y := by
        rw [List.getElem?_eq_getElem hml] at e
        exact Option.some.inj e
      have := List.not_of_lt_findIdx (p := (· == i)) (xs := ns) (i := m) hm
      simp only [beq_iff_eq, hy] at this
      simp [eqV, this]
theorem cW_aftgo {σ ρ τ : Type} {s : σ} {kr : ρ → Rx τ} {k : σ → Rx τ} {K : τ → Prop} {E : Nat → Prop} (h : cW ((Lp.go s : Lp σ ρ).aft kr k) K E) : cW (k s) K E := h
end Vx
namespace Vx
open PySem PySem.Spec PyProof.Rows L2
/-! ### a truth value or a number beside a number -/
def Bi.num : Bi → Int
  | .b x => if x then 1 else 0
  | .n i => i
def Bi.dat : Bi → PyData
  | .b x => .bool x
  | .n i => .int i
section
variable {X : Cx}
def rEqBI : R2 := fun x y H Q => ∃ (b : Bi) (i : Int), x = biV b ∧ y = .int i ∧ Q (.bl (decide (b.num = i))) H
def rNeBI : R2 := fun x y H Q => ∃ (b : Bi) (i : Int), x = biV b ∧ y = .int i ∧ Q (.bl (!decide (b.num = i))) H
theorem eqv_bi (b : Bi) (i : Int) : PyData.eqv b.dat (.int i) = decide (b.num = i) := by
  cases b with
  | b x => cases x <;> (rw [Bool.eq_iff_iff]; simp [Bi.dat, Bi.num, PyData.eqv])
  | n j =>
    rw [Bool.eq_iff_iff]
    simp only [Bi.dat, Bi.num, PyData.eqv, beq_iff_eq]
    exact decide_eq_true_iff.symm
theorem dp_bi {K : PySem.W.Frag} {H : Hp} : ∀ b : Bi, Dp K H (biV b) b.dat
  | .b x => .bl x
  | .n i => .int i
theorem shaped_bi : ∀ b : Bi, SeqAt.shaped b.dat = true
  | .b x => by unfold SeqAt.shaped; simp [Bi.dat, PyData.canLay0, PyData.depth]
  | .n i => by unfold SeqAt.shaped; simp [Bi.dat, PyData.canLay0, PyData.depth]
theorem op_eqBI (hu : X.A.units + 64 < cLine) : OpR X (compareOp .Eq) rEqBI := by
  intro pins s σ H x y v u Q I rx ry h
  obtain ⟨b, i, rfl, rfl, q⟩ := h
  exact op_eqD hu pins s σ H _ _ v u Q I rx ry ⟨b.dat, .int i, dp_bi b, .int i, shaped_bi b, shaped_bi (.n i), by rw [eqv_bi]; exact q⟩
theorem op_neBI (hu : X.A.units + 64 < cLine) : OpR X (compareOp .NotEq) rNeBI := by
  intro pins s σ H x y v u Q I rx ry h
  obtain ⟨b, i, rfl, rfl, q⟩ := h
  exact op_neD hu pins s σ H _ _ v u Q I rx ry ⟨b.dat, .int i, dp_bi b, .int i, shaped_bi b, shaped_bi (.n i), by rw [eqv_bi]; exact q⟩
end
end Vx
namespace Vx
open PySem PySem.Spec PyProof.Rows L2
/-! ### == of own objects by an own __eq__ that never raises -/
section
variable {X : Cx} {k j : Nat}
def rEqX (C : Addr) (n mm : Nat) (sp : Sp) (g : List V → List V → List V) : R2 := fun x y H Q => ∃ (a b dx dy : Addr) (fs gs : List (Str × V)), x = .ref a ∧ y = .ref b ∧ H a = some (.ins C dx fs) ∧ H b = some (.ins C dy gs) ∧ 2 = n ∧ 0 = mm ∧ sp (g [x, y] []) H (fun v H' => (∃ r, v = .bl r) ∧ Q v H') E0
theorem op_eqX {C : Addr} {sp : Sp} {pats : List Pat} (c : MetX X.prog X.w X.K X.mg X.base k C "__eq__" sp pats) (pt : Pat) (hpt : pt ∈ pats) (hr : RoomG j X.A) (hk : k ≤ j) (hks : pt.2.1 = [] := by rfl) : OpR X (compareOp .Eq) (rEqX C pt.1 pt.2.1.length sp pt.2.2) := by
  intro pins s σ H x y v u Q I rx ry hq
  obtain ⟨a, b, dx, dy, fs, gs, rfl, rfl, ha, hb', l1, l2, q⟩ := hq
  obtain ⟨f, fd, ps, hc, hm, F, bb⟩ := c.ex
  cases rx
  cases ry
  obtain ⟨mA, J, _⟩ := ins_get I.hok ha
  obtain ⟨mB, J', _⟩ := ins_get I.hok hb'
  obtain ⟨od, J, _⟩ := J.look
  obtain ⟨od', J', _⟩ := J'.look
  obtain ⟨m, hF⟩ := I.fr
  have hz := run_X (us := [.ref a, .ref b]) (vs := [.ref a, .ref b]) (ws := []) (zs := []) F (hr.low hk) (bb pt hpt) (takes0 (X := X)) I (.cons rfl (.cons rfl .nil)) .nil l1 l2 q
  rw [hks] at hz
  show wpAny (model X.prog X.w) X.A (richCompare .Eq (.ref a) (.ref b)) (EP X pins σ Q) X.xe s
  refine PySem.W.cmp_K (op := .Eq) (tb := .ref C) (hr.low hk).toRoom.units0 hF I.ok.mod.kin J J'.type (by simp [PySem.W.notFirst]) hm.at_ hm.fn ?_
  refine wpAny_mono hz (fun r s' z => ?_) fun _ _ e => e
  obtain ⟨w, H', I', rw', ⟨⟨q1, rfl⟩, q2⟩⟩ := z
  cases rw'
  exact ⟨V.bl q1, H', I', rfl, q2⟩
end
end Vx
namespace Vx
open PySem PySem.Spec PyProof.Rows L2
/-! ### isinstance of the exception in hand: a built-in class, a tuple of classes -/
theorem kit_blt {K : PySem.W.Frag} {D : Addr} {T : String} {b : Bool} (h : PySem.W.subIn K (.ref D) (.type T) = some b) (h0 : PySem.W.kitMeta T = true := by decide +kernel) : PySem.W.kitOne K (.ref D) (.type T) = some b := by
  unfold PySem.W.kitOne
  rw [if_neg (show ¬ (Value.ref D == Value.type T) = true from fun z => nomatch (show false = true from z))]
  show (if PySem.W.kitMeta T = true then PySem.W.subIn K (.ref D) (.type T) else none) = some b
  rw [if_pos h0, h]
def rIsXB (K : PySem.W.Frag) (a : Addr) (cls : Value) (d : Option Addr) : List V → Hp → VK → Prop := fun xs H Q => ∃ (D : Addr) (T : String) (b : Bool), cls = .ref D ∧ d = none ∧ ExcC K D ∧ xs = [.ref a, .ty T] ∧ PySem.W.kitOne K (.ref D) (.type T) = some b ∧ Q (.bl b) H
theorem call_isXB {X : Cx} {K : PySem.W.Frag} {a : Addr} {cls : Value} {d : Option Addr} {oe : Obj} {pn : List (Addr × Obj)} (hz : Zc cls d oe) (hf : ∃ vs, oe.data = .fields vs) (hK : X.K = K := by rfl) : CallR (X.suite a ((a, oe) :: pn)) (.builtin "isinstance") (rIsXB K a cls d) := by
  subst hK
  intro pins s σ H xs us Q I r h
  obtain ⟨D, T, b, rfl, rfl, c, rfl, e, q⟩ := h
  exact call_isE c hz hf pins s σ H _ us Q I r ⟨_, _, b, rfl, fun u z => z, e, q⟩
def rIsXT (K : PySem.W.Frag) (a : Addr) (cls : Value) (d : Option Addr) : List V → Hp → VK → Prop := fun xs H Q => ∃ (D tp : Addr) (cs : List V) (ws : List Value) (b : Bool), cls = .ref D ∧ d = none ∧ ExcC K D ∧ xs = [.ref a, .ref tp] ∧ H tp = some (.tup cs) ∧ Paired ClsV cs ws ∧ PySem.W.kitAny K (.ref D) ws = some b ∧ Q (.bl b) H
theorem call_isXT {X : Cx} {K : PySem.W.Frag} {a : Addr} {cls : Value} {d : Option Addr} {oe : Obj} {pn : List (Addr × Obj)} (hz : Zc cls d oe) (hf : ∃ vs, oe.data = .fields vs) (hK : X.K = K := by rfl) : CallR (X.suite a ((a, oe) :: pn)) (.builtin "isinstance") (rIsXT K a cls d) := by
  subst hK
  intro pins s σ H xs us Q I r h
  obtain ⟨D, tp, cs, ws, b, rfl, rfl, C, rfl, hT, k, e, q⟩ := h
  cases r with
  | cons rx rr =>
    cases rr with
    | cons rt rr =>
      cases rr
      cases rx
      cases rt
      obtain ⟨hget, _⟩ := I.pin (a, oe) (List.mem_append.mpr (.inl List.mem_cons_self))
      obtain ⟨vs, hv⟩ := hf
      have J : PySem.W.InstAt s.heap a oe D none := by
        obtain ⟨oc, od, oda, osl⟩ := oe
        obtain ⟨h1, h2⟩ := hz
        dsimp only at h1 h2 hv
        subst h1 h2 hv
        exact ⟨hget, rfl, rfl, trivial⟩
      obtain ⟨_, its, rv, o, h1, h2, n, h3⟩ := (show ObjOk X.prog X.w H s.heap tp (.tup cs) from I.hok tp _ hT)
      have e3 := ClsV.all k rv
      subst e3
      obtain ⟨oc, od, dt, sl⟩ := o
      simp only at h2 h3
      subst h2 h3
      exact PySem.W.kia_tup (PySem.W.handS_kitx_exc C.hg C.hk C.hs C.hd C.ha C.hn C.ht C.hm) I.kIn J h1 e (fun z => nomatch z) fun tk => ⟨.bl b, H, I.kept (t' := tk) fun _ _ z => z, rfl, q⟩
theorem kit_self {K : PySem.W.Frag} {t : Value} (h : (t == t) = true := by simp) : PySem.W.kitOne K t t = some true := by
  unfold PySem.W.kitOne
  rw [if_pos h]
/-- what a class must say, so that isinstance asks its objects rightly -/
structure IsiC (K : PySem.W.Frag) (C : Addr) : Prop where
  ha : PySem.W.findIn K (.ref C) "__class__" = some (some (.builtin "object.__class__"))
  hn : PySem.W.specialIn K (.builtin "object.__class__") "__get__" = some (some (.builtin "getset_descriptor.__get__"))
  ht : PySem.W.takesIn K (.builtin "object.__class__") = some true
  hm : PySem.W.mroIn K C (.type "object") = some true
theorem tyX_ins {K : PySem.W.Frag} {H : Hp} {a C dx : Addr} {fs : List (Str × V)} (e : H a = some (.ins C dx fs)) (cl : Cls K C) (c : IsiC K C) : TyX K H (.ref a) (.ref C) := .base (.ins e cl c.ha c.hn c.ht c.hm)
end Vx
namespace Vx
open PySem PySem.Spec PyProof.Rows L2
theorem op_notTrue {X : Cx} : OpR X (compareOp .IsNot) (fun x y H Q => ∃ b : Bool, x = .bl b ∧ y = .bl true ∧ Q (.bl (!b)) H) := by
  intro pins s σ H x y v u Q I rx ry h
  obtain ⟨b, rfl, rfl, q⟩ := h
  cases rx
  cases ry
  show wpAny (model X.prog X.w) X.A (compareOp .IsNot (.bool b) (.bool true)) (EP X pins σ Q) X.xe s
  have e : compareOp .IsNot (.bool b) (.bool true) = pure (.bool (!b)) := by cases b <;> rfl
  rw [e]
  exact wpAny_pure ⟨.bl (!b), H, I, rfl, q⟩
end Vx
/-! # lists stored into trees -/
namespace Vx
open PySem PySem.Spec PyProof.Rows L2
section
variable {G H I : Hp} {α : Type} {f : α → Dt} {L : List Addr} {vs : List V} {xs : List α}
theorem OwAll.set {L1 : List Addr} {v : V} {d : Dt} (h : Ow G H L1 v d) : ∀ {L : List Addr} {vs : List V} {ds : List Dt} (i : Nat), i < ds.length → OwAll G H L vs ds → (∀ b ∈ L1, b ∉ L) → ∃ L', (∀ b ∈ L', b ∈ L ++ L1) ∧ OwAll G H L' (vs.set i v) (ds.set i d)
  | _, _, _, _, hi, .nil, _ => absurd hi (Nat.not_lt_zero _)
  | _, _, _, 0, _, .cons (L1 := La) (L2 := Lb) a r n, nf => by
    refine ⟨L1 ++ Lb, fun b hb => ?_, .cons h r fun b hb q => nf b hb (List.mem_append_right _ q)⟩
    rcases List.mem_append.mp hb with q | q
    · exact List.mem_append_right _ q
    · exact List.mem_append_left _ (List.mem_append_right _ q)
  | _, _, _, i + 1, hi, .cons (L1 := La) (L2 := Lb) a r n, nf => by
    obtain ⟨L', s, w⟩ := OwAll.set h i (Nat.lt_of_succ_lt_succ hi) r fun b hb q => nf b hb (List.mem_append_right _ q)
    refine ⟨La ++ L', fun b hb => ?_, .cons a w fun b hb q => ?_⟩
    · rcases List.mem_append.mp hb with q | q
      · exact List.mem_append_left _ (List.mem_append_left _ q)
      · rcases List.mem_append.mp (s b q) with z | z
        · exact List.mem_append_left _ (List.mem_append_right _ z)
        · exact List.mem_append_right _ z
    · rcases List.mem_append.mp (s b q) with z | z
      · exact n b hb z
      · exact nf b z (List.mem_append_left _ hb)
theorem ixN_len {k : Int} (e : vs.length = xs.length) (h : -(xs.length : Int) ≤ k ∧ k < xs.length) : ixN vs.length k = some ((ixN vs.length k).getD 0) := by
  rw [e]
  obtain ⟨j, hj, _⟩ := ixN_some h
  rw [hj]
  rfl
theorem OwAll.setM {k : Int} {L1 : List Addr} {v : V} {y : α} (w : OwAll G H L vs (xs.map f)) (h : -(xs.length : Int) ≤ k ∧ k < xs.length) (ow : Ow G H L1 v (f y)) (n : ∀ b ∈ L1, b ∉ L) :
    ∃ L', (∀ b ∈ L', b ∈ L ++ L1) ∧ OwAll G H L' (vs.set ((ixN vs.length k).getD 0) v) ((setL xs k y).map f) := by
  obtain ⟨j, e, hj⟩ := ixN_some h
  obtain ⟨L', s, z⟩ := OwAll.set ow j (by simpa using hj) w n
  refine ⟨L', s, ?_⟩
  unfold setL
  rw [w.lenM, e, List.map_set]
  exact z
end
theorem ne_of_len {α : Type} {xs : List α} (h : xs.length = 4 ∨ xs.length = 6 ∨ xs.length = 8) : xs ≠ [] := by
  rintro rfl
  simp at h
end Vx
namespace Vx
open PySem PySem.Spec PyProof.Rows L2
/-! ### written dicts of ints -/
inductive EI : List (Int × Int) → List DictEntry → Prop
  | nil : EI [] []
  | cons {k v : Int} {t u : Tok} {r : List (Int × Int)} {es : List DictEntry} (h : EI r es) : EI ((k, v) :: r) (⟨hashInt k, .int k t, .int v u⟩ :: es)
def lookI : List (Int × Int) → Int → Option Int
  | [], _ => none
  | (k, v) :: r, i => if i = k then some v else lookI r i
def KDI (K : PySem.W.Frag) (a : Addr) (kvs : List (Int × Int)) : Prop :=
  ∃ es n, K.lookup a = some ⟨.type "dict", none, .dict es n, #[]⟩ ∧ (a == sysModules) = false ∧ EI kvs es.toList
theorem lookI_mem {kvs : List (Int × Int)} {i : Int} : (lookI kvs i).isSome = decide (i ∈ kvs.map (·.1)) := by
  induction kvs with
  | nil => rfl
  | cons p r ih =>
    obtain ⟨k, v⟩ := p
    unfold lookI
    by_cases q : i = k
    · rw [if_pos q]; simp [q]
    · rw [if_neg q, ih]; simp [q]
theorem EI.find {i : Int} : ∀ {kvs : List (Int × Int)} {es : List DictEntry}, EI kvs es → match lookI kvs i with
    | some v => ∃ u, (es.find? fun e => keyIs (.inl i) e.key).map (·.val) = some (.int v u)
    | none => (es.find? fun e => keyIs (.inl i) e.key).map (·.val) = none
  | _, _, .nil => rfl
  | _, _, .cons (k := k) (v := v) (t := t) (u := u) (r := r) (es := es) h => by
    have ih := EI.find (i := i) h
    unfold lookI
    by_cases q : i = k
    · subst q
      rw [if_pos rfl]
      refine ⟨u, ?_⟩
      rw [List.find?_cons_of_pos (by exact keyIs_int i t)]
      rfl
    · rw [if_neg q]
      have e : ¬ (keyIs (.inl i) (Value.int k t) = true) := by
        intro z
        obtain ⟨t', e'⟩ := Value.isInt_shape (k := i) (v := Value.int k t) z
        injection e' with e1 _
        exact q e1.symm
      rw [List.find?_cons_of_neg (by exact e)]
      exact ih
theorem EI.keys {P : Program} {w : World} : ∀ {kvs : List (Int × Int)} {es : List DictEntry}, EI kvs es → ∀ e ∈ es, ∃ k, (mixKind P w).is k e.key = true ∧ e.hash = (mixKind P w).hash k
  | _, _, .nil, e, he => nomatch he
  | _, _, .cons (k := k) (t := t) h, e, he => by
    rcases List.mem_cons.mp he with rfl | he
    · exact ⟨.inl k, keyIs_int k t, rfl⟩
    · exact EI.keys h e he
section
variable {X : Cx} {K : PySem.W.Frag}
theorem KDI.map {d : Addr} {kvs : List (Int × Int)} {pins : List (Addr × Obj)} {σ : L2.St} {H : Hp} {s : Shared} (D : KDI X.K d kvs) (I : Inv X pins σ H s) : (d == sysModules) = false ∧ ∃ f, s.heap.MapOf (mixKind X.prog X.w) d f ∧ ∀ i, match lookI kvs i with
    | some v => ∃ u, f (.inl i) = some (.int v u)
    | none => f (.inl i) = none := by
  obtain ⟨es, n, hl, hd, he⟩ := D
  refine ⟨hd, fun k => findBy keyIs es k, ⟨_, es, n, I.kIn _ _ hl, ⟨rfl, rfl, rfl⟩, rfl, fun e q => EI.keys he e (Array.mem_toList_iff.mpr q), fun _ => rfl⟩, fun i => ?_⟩
  have := EI.find (i := i) he
  have e : findBy keyIs es (.inl i) = (es.toList.find? fun e => keyIs (.inl i) e.key).map (·.val) := by
    obtain ⟨l⟩ := es
    unfold findBy
    rw [List.find?_toArray]
  show match lookI kvs i with
    | some v => ∃ u, findBy keyIs es (.inl i) = some (.int v u)
    | none => findBy keyIs es (.inl i) = none
  rw [e]
  exact this
def rInDI (K : PySem.W.Frag) : R2 := fun x y H Q => ∃ (i : Int) (d : Addr) (kvs : List (Int × Int)) (ks : List Int), x = .int i ∧ y = .ref d ∧ KDI K d kvs ∧ ks = kvs.map (·.1) ∧ Q (.bl (decide (i ∈ ks))) H
def rNotInDI (K : PySem.W.Frag) : R2 := fun x y H Q => ∃ (i : Int) (d : Addr) (kvs : List (Int × Int)) (ks : List Int), x = .int i ∧ y = .ref d ∧ KDI K d kvs ∧ ks = kvs.map (·.1) ∧ Q (.bl (!decide (i ∈ ks))) H
def rIxDI (K : PySem.W.Frag) : R2 := fun x y H Q => ∃ (d : Addr) (i v : Int) (kvs : List (Int × Int)), x = .ref d ∧ y = .int i ∧ KDI K d kvs ∧ lookI kvs i = some v ∧ Q (.int v) H
theorem op_inDI (hK : X.K = K := by rfl) : OpR X (compareOp .In) (rInDI K) := by
  subst hK
  intro pins s σ H x y v u Q I rx ry h
  obtain ⟨i, d, kvs, ks, rfl, rfl, D, rfl, q⟩ := h
  rw [← lookI_mem] at q
  obtain ⟨t, rfl⟩ := rx
  cases ry
  obtain ⟨hd, f, hm, hf⟩ := D.map I
  refine wpAny_in_of (knd := mixKind X.prog X.w) (kV_is (k := .inl i) ⟨t, rfl⟩) hd hm ?_
  have e : (f (.inl i)).isSome = (lookI kvs i).isSome := by
    have := hf i
    split at this
    · next v hv => obtain ⟨u, hu⟩ := this; rw [hu, hv]; rfl
    · next hv => rw [this, hv]; rfl
  rw [e]
  exact ⟨.bl (lookI kvs i).isSome, H, I.tok _, rfl, q⟩
theorem op_notInDI (hK : X.K = K := by rfl) : OpR X (compareOp .NotIn) (rNotInDI K) := by
  subst hK
  intro pins s σ H x y v u Q I rx ry h
  obtain ⟨i, d, kvs, ks, rfl, rfl, D, rfl, q⟩ := h
  rw [← lookI_mem] at q
  obtain ⟨t, rfl⟩ := rx
  cases ry
  obtain ⟨hd, f, hm, hf⟩ := D.map I
  refine wpAny_notIn_of (knd := mixKind X.prog X.w) (kV_is (k := .inl i) ⟨t, rfl⟩) hd hm ?_
  have e : (f (.inl i)).isSome = (lookI kvs i).isSome := by
    have := hf i
    split at this
    · next v hv => obtain ⟨u, hu⟩ := this; rw [hu, hv]; rfl
    · next hv => rw [this, hv]; rfl
  rw [e]
  exact ⟨.bl (!(lookI kvs i).isSome), H, I.tok _, rfl, q⟩
theorem ix_DI (hK : X.K = K := by rfl) : IxR X (rIxDI K) := by
  subst hK
  intro value slice pins s σ H x y v u Q I rx ry h hs
  obtain ⟨p, i, r, kvs, rfl, rfl, D, e, q⟩ := h
  obtain rfl : v = Value.ref p := rx
  obtain ⟨t, rfl⟩ := ry
  obtain ⟨hd, f, hm, hf⟩ := D.map I
  have := hf i
  rw [e] at this
  obtain ⟨u, hu⟩ := this
  exact tail_any hm.typeIs slot_dict_getitem.lookup (wpAny_getItem_of (knd := mixKind X.prog X.w) (kV_is (k := .inl i) ⟨t, rfl⟩) hm hu ⟨.int r, H, I.tok _, ⟨_, rfl⟩, q⟩) hs
end
/-- the value at a key that is there -/
def dictI (kvs : List (Int × Int)) (i : Int) : Int := (lookI kvs i).getD 0
theorem lookI_at {kvs : List (Int × Int)} {i : Int} (h : i ∈ kvs.map (·.1)) : lookI kvs i = some (dictI kvs i) := by
  have := lookI_mem (kvs := kvs) (i := i)
  rw [decide_eq_true h] at this
  unfold dictI
  cases e : lookI kvs i with
  | none => rw [e] at this; cases this
  | some v => rfl
/-! ### walks over two lists, over numbered items, backwards -/
theorem pi_enumK {X : Cx} {K : PySem.W.Frag} {e : Expr} {ta : TA} {p pos tpos : Pos} {elts : List Expr} {kk : Nat} (hg : Gl X "enumerate") (hm : X.mg "enumerate" = none) (ha : PA X [e] ta) (hK : X.K = K := by rfl) (hs : starEach [e] X.env = [(false, eval e X.env)] := by rfl) :
    PI X (.Tuple elts kk tpos) (.Call (.Name "enumerate" p) [e] [] pos) (iEnum K ta) := hK ▸ pi_enum hg hm ha hs
section
variable {K : PySem.W.Frag} {a b : Addr} {xs ys : List V} {g : TG} {tb : TS} {tt : TT} {te : TE} {D : Ends} {σ : L2.St} {H H1 : Hp} {vs : List Nat} {DD : Addr} {Qd : Hp → Prop}
theorem for_enum (Pv : Nat → L2.St → Hp → Prop) (h0 : Pv 0 σ H) (hq : ∀ i σ H, Pv i σ H → SqL K H a xs)
    (hs : ∀ (i : Nat) (y : V) (T : Addr) (σ : L2.St) (H : Hp), xs[i]? = some y → H T = none → Pv i σ H → g (.ref T) σ (upd H T (.tup [.int (i : Nat), y])) fun σ2 H2 => tb { D with nx := Pv (i + 1), ct := Pv (i + 1), bk := D.nx } σ2 H2) (hd : ∀ σ H, Pv xs.length σ H → D.nx σ H) :
    ∃ W : Nat → Nat → L2.St → Hp → Prop, (∃ m, W 0 m σ H) ∧ ∀ i m σ H, W i m σ H →
      ((Ite K a).stop i H ∧ D.nx σ H) ∨ ((Ite K a).go i H ∧ ∃ N : L2.St → Hp → Prop, (∀ σ' H', N σ' H' → ∃ m', m' < m ∧ W (i + 1) m' σ' H') ∧ ∀ v H', (Ite K a).yld i H v H' → g v σ H' fun σ2 H2 => tb { D with nx := N, ct := N, bk := D.nx } σ2 H2) := by
  refine for_it walk_enum Pv h0 (fun i σ H _ p => hq i σ H p) (fun i x σ H H' hi p y => ?_) hd
  obtain ⟨T, x1, y1, rfl, hT, rfl, h1, h2⟩ := y
  cases h1
  exact hs i y1 T σ H h2 hT p
theorem lc_enum (Pv : Nat → Hp → Prop) (h0 : Pv 0 (upd H1 DD (.lst []))) (hq : ∀ i H, i ≤ xs.length → Pv i H → SqL K H a xs)
    (hs : ∀ (i : Nat) (y : V) (T : Addr) (H : Hp), xs[i]? = some y → H T = none → Pv i H → g (.ref T) (wipe σ vs) (upd H T (.tup [.int (i : Nat), y])) fun σ2 H2 => wipe σ2 vs = wipe σ vs ∧ tt σ2 H2 fun b H3 =>
      if b = true then te σ2 H3 fun y H4 => ∃ acc, H4 DD = some (.lst acc) ∧ acc.length < sizeLine ∧ Pv (i + 1) (upd H4 DD (.lst (acc ++ [y]))) else Pv (i + 1) H3) (hd : ∀ H, Pv xs.length H → Qd H) :
    ∃ W : Nat → Nat → Hp → Prop, (∃ m, W 0 m (upd H1 DD (.lst []))) ∧ ∀ i m H, W i m H →
      ((Ite K a).stop i H ∧ Qd H) ∨ ((Ite K a).go i H ∧ ∃ Nx : Hp → Prop, (∀ H', Nx H' → ∃ m', m' < m ∧ W (i + 1) m' H') ∧ ∀ x H', (Ite K a).yld i H x H' → g x (wipe σ vs) H' fun σ2 H2 => wipe σ2 vs = wipe σ vs ∧ tt σ2 H2 fun b H3 =>
        if b = true then te σ2 H3 fun y H4 => ∃ acc, H4 DD = some (.lst acc) ∧ acc.length < sizeLine ∧ Nx (upd H4 DD (.lst (acc ++ [y]))) else Nx H3) := by
  refine lc_it walk_enum Pv h0 hq (fun i x H H' hi p y => ?_) hd
  obtain ⟨T, x1, y1, rfl, hT, rfl, h1, h2⟩ := y
  cases h1
  exact hs i y1 T H h2 hT p
/-- zip of two lists of any lengths -/
theorem for_zipM (n : Nat) (hn : n = min xs.length ys.length) (Pv : Nat → L2.St → Hp → Prop) (h0 : Pv 0 σ H) (hq : ∀ i σ H, Pv i σ H → SqL K H a xs ∧ SqL K H b ys)
    (hs : ∀ (i : Nat) (x y : V) (T : Addr) (σ : L2.St) (H : Hp), xs[i]? = some x → ys[i]? = some y → H T = none → Pv i σ H → g (.ref T) σ (upd H T (.tup [x, y])) fun σ2 H2 => tb { D with nx := Pv (i + 1), ct := Pv (i + 1), bk := D.nx } σ2 H2) (hd : ∀ σ H, Pv n σ H → D.nx σ H) :
    ∃ W : Nat → Nat → L2.St → Hp → Prop, (∃ m, W 0 m σ H) ∧ ∀ i m σ H, W i m σ H →
      ((Itz K a b).stop i H ∧ D.nx σ H) ∨ ((Itz K a b).go i H ∧ ∃ N : L2.St → Hp → Prop, (∀ σ' H', N σ' H' → ∃ m', m' < m ∧ W (i + 1) m' σ' H') ∧ ∀ v H', (Itz K a b).yld i H v H' → g v σ H' fun σ2 H2 => tb { D with nx := N, ct := N, bk := D.nx } σ2 H2) := by
  refine for_it (walk_zip hn) Pv h0 (fun i σ H _ p => hq i σ H p) (fun i x σ H H' hi p y => ?_) hd
  obtain ⟨T, x1, y1, rfl, hT, rfl, h1, h2⟩ := y
  exact hs i x1 y1 T σ H h1 h2 hT p
theorem lc_zipM (n : Nat) (hn : n = min xs.length ys.length) (Pv : Nat → Hp → Prop) (h0 : Pv 0 (upd H1 DD (.lst []))) (hq : ∀ i H, i ≤ n → Pv i H → SqL K H a xs ∧ SqL K H b ys)
    (hs : ∀ (i : Nat) (x y : V) (T : Addr) (H : Hp), xs[i]? = some x → ys[i]? = some y → H T = none → Pv i H → g (.ref T) (wipe σ vs) (upd H T (.tup [x, y])) fun σ2 H2 => wipe σ2 vs = wipe σ vs ∧ tt σ2 H2 fun b H3 =>
      if b = true then te σ2 H3 fun y H4 => ∃ acc, H4 DD = some (.lst acc) ∧ acc.length < sizeLine ∧ Pv (i + 1) (upd H4 DD (.lst (acc ++ [y]))) else Pv (i + 1) H3) (hd : ∀ H, Pv n H → Qd H) :
    ∃ W : Nat → Nat → Hp → Prop, (∃ m, W 0 m (upd H1 DD (.lst []))) ∧ ∀ i m H, W i m H →
      ((Itz K a b).stop i H ∧ Qd H) ∨ ((Itz K a b).go i H ∧ ∃ Nx : Hp → Prop, (∀ H', Nx H' → ∃ m', m' < m ∧ W (i + 1) m' H') ∧ ∀ x H', (Itz K a b).yld i H x H' → g x (wipe σ vs) H' fun σ2 H2 => wipe σ2 vs = wipe σ vs ∧ tt σ2 H2 fun b H3 =>
        if b = true then te σ2 H3 fun y H4 => ∃ acc, H4 DD = some (.lst acc) ∧ acc.length < sizeLine ∧ Nx (upd H4 DD (.lst (acc ++ [y]))) else Nx H3) := by
  refine lc_it (walk_zip hn) Pv h0 hq (fun i x H H' hi p y => ?_) hd
  obtain ⟨T, x1, y1, rfl, hT, rfl, h1, h2⟩ := y
  exact hs i x1 y1 T H h1 h2 hT p
end
theorem zipM_len {α β : Type} {xs : List α} {ys : List β} : min xs.length ys.length = (xs.zip ys).length := by rw [List.length_zip]
theorem zipM_n {α β : Type} {vs ws : List V} {xs : List α} {ys : List β} (a : vs.length = xs.length) (b : ws.length = ys.length) : min xs.length ys.length = min vs.length ws.length := by rw [a, b]
def rListTK (K : PySem.W.Frag) : List V → Hp → VK → Prop := fun xs H Q => ∃ (p : Addr) (vs : List V), xs = [.ref p] ∧ SqT K H p vs ∧ ∀ l, H l = none → Q (.ref l) (upd H l (.lst vs))
theorem call_listTK {X : Cx} {K : PySem.W.Frag} (hK : X.K = K := by rfl) : CallR X (.type "list") (rListTK K) := by
  subst hK
  intro pins s σ H xs us Q I r h
  obtain ⟨p, vs, rfl, hs, q⟩ := h
  exact call_list_of pins s σ H _ us Q I r ⟨p, _, rfl, Or.inr hs, q⟩
/-- two lists that keep step -/
inductive F2 {α β : Type} (P : α → β → Prop) : List α → List β → Prop
  | nil : F2 P [] []
  | cons {a : α} {b : β} {l : List α} {m : List β} (h : P a b) (t : F2 P l m) : F2 P (a :: l) (b :: m)
theorem F2.get {α β : Type} {P : α → β → Prop} : ∀ {l : List α} {m : List β}, F2 P l m → ∀ (j : Nat), j < l.length → ∃ a b, l[j]? = some a ∧ m[j]? = some b ∧ P a b
  | _, _, .nil, j, h => absurd h (Nat.not_lt_zero _)
  | _, _, .cons h t, 0, _ => ⟨_, _, rfl, rfl, h⟩
  | _, _, .cons h t, j + 1, hj => t.get j (Nat.lt_of_succ_lt_succ hj)
theorem F2.at {α β : Type} [Inhabited α] [Inhabited β] {P : α → β → Prop} {l : List α} {m : List β} (h : F2 P l m) (k : Int) (h0 : 0 ≤ k) (h1 : k < l.length) : P (itD l k) (itD m k) := by
  obtain ⟨j, rfl⟩ : ∃ j : Nat, k = (j : Int) := ⟨k.toNat, by omega⟩
  obtain ⟨a, b, ha, hb, p⟩ := h.get j (by omega)
  have e1 : itD l (j : Int) = a := by unfold itD; rw [atI_nat ha]; rfl
  have e2 : itD m (j : Int) = b := by unfold itD; rw [atI_nat hb]; rfl
  rw [e1, e2]
  exact p
theorem SqT.cast {K : PySem.W.Frag} {H : Hp} {a : Addr} {xs ys : List V} (h : SqT K H a xs) (e : xs = ys) : SqT K H a ys := e ▸ h
/-- enumerate(xs) -/
def enumL {α : Type} (xs : List α) : List (Int × α) := (rng 0 xs.length).zip xs
theorem enumL_len {α : Type} (xs : List α) : (enumL xs).length = xs.length := by
  unfold enumL
  rw [List.length_zip, rng_len, Nat.min_self]
theorem enumL_get {α : Type} {xs : List α} {i : Nat} {x : α} (h : xs[i]? = some x) : (enumL xs)[i]? = some ((i : Int), x) := by
  have hl : i < xs.length := (List.getElem?_eq_some_iff.mp h).1
  unfold enumL
  rw [List.getElem?_zip_eq_some]
  refine ⟨?_, h⟩
  have := rng_get (lo := 0) hl
  rw [this]
  congr 1
  omega
end Vx
/-! # fourth part: reckoning with functions that may refuse -/
namespace Vx
open PySem PySem.Spec PyProof.Rows L2
section
variable {α β σ ρ τ : Type}
theorem bind_ok (a : α) (f : α → Rx β) : (Rx.ok a).bind f = f a := rfl
theorem bind_er (e : Nat) (f : α → Rx β) : (Rx.er e : Rx α).bind f = .er e := rfl
theorem grd_pos {p : Prop} {dp : Decidable p} {m : Rx α} (h : p) : grd p m = m := if_pos h
theorem bnd_eq (a : α) (f : α → Rx β) : bnd a f = f a := rfl
theorem noEr_ok (a : α) : noEr (.ok a : Rx α) = .ok a := rfl
theorem tryR_ok {cs : List Nat} (a : α) (f : α → Rx β) (g : Nat → Rx β) : tryR (.ok a) cs f g = f a := rfl
theorem tryR_er {cs : List Nat} {e : Nat} (h : e ∈ cs) (f : α → Rx β) (g : Nat → Rx β) : tryR (.er e) cs f g = g e := if_pos h
theorem aft_go (s : σ) (kr : ρ → Rx τ) (k : σ → Rx τ) : (Lp.go s : Lp σ ρ).aft kr k = k s := rfl
theorem aft_rt (r : ρ) (kr : ρ → Rx τ) (k : σ → Rx τ) : (Lp.rt r : Lp σ ρ).aft kr k = kr r := rfl
/-- gives a value of which P holds -/
def Gv (m : Rx α) (P : α → Prop) : Prop := ∃ v, m = .ok v ∧ P v
theorem Gv.ok {a : α} {P : α → Prop} (h : P a) : Gv (.ok a) P := ⟨a, rfl, h⟩
theorem Gv.of_eq {m : Rx α} {a : α} {P : α → Prop} (e : m = .ok a) (h : P a) : Gv m P := ⟨a, e, h⟩
theorem Gv.bind {m : Rx α} {f : α → Rx β} {P : α → Prop} {Q : β → Prop} (h : Gv m P) (k : ∀ v, P v → Gv (f v) Q) : Gv (m.bind f) Q := by
  obtain ⟨v, rfl, p⟩ := h
  exact k v p
theorem Gv.bind_eq {m : Rx α} {f : α → Rx β} {a : α} {Q : β → Prop} (h : m = .ok a) (k : Gv (f a) Q) : Gv (m.bind f) Q := by
  subst h
  exact k
theorem Gv.grd {p : Prop} {dp : Decidable p} {m : Rx α} {Q : α → Prop} (h : p) (k : Gv m Q) : Gv (Vx.grd p m) Q := by
  rw [grd_pos h]
  exact k
theorem Gv.bnd {a : α} {f : α → Rx β} {Q : β → Prop} (k : ∀ x, x = a → Gv (f x) Q) : Gv (Vx.bnd a f) Q := k a rfl
theorem Gv.ite {p : Prop} {dp : Decidable p} {a b : Rx α} {Q : α → Prop} (h1 : p → Gv a Q) (h2 : ¬ p → Gv b Q) : Gv (if p then a else b) Q := by
  split
  · exact h1 ‹_›
  · exact h2 ‹_›
theorem Gv.pos {p : Prop} {dp : Decidable p} {a b : Rx α} {Q : α → Prop} (h : p) (k : Gv a Q) : Gv (if p then a else b) Q := by rwa [if_pos h]
theorem Gv.neg {p : Prop} {dp : Decidable p} {a b : Rx α} {Q : α → Prop} (h : ¬ p) (k : Gv b Q) : Gv (if p then a else b) Q := by rwa [if_neg h]
theorem Gv.imp {m : Rx α} {P Q : α → Prop} (h : Gv m P) (k : ∀ v, P v → Q v) : Gv m Q := by
  obtain ⟨v, e, p⟩ := h
  exact ⟨v, e, k v p⟩
theorem Gv.noEr {m : Rx α} {P : α → Prop} (h : Gv m P) : Gv (Vx.noEr m) P := by
  obtain ⟨v, rfl, p⟩ := h
  exact ⟨v, rfl, p⟩
theorem Gv.tryOk {m : Rx α} {cs : List Nat} {f : α → Rx β} {g : Nat → Rx β} {P : α → Prop} {Q : β → Prop} (h : Gv m P) (k : ∀ v, P v → Gv (f v) Q) : Gv (tryR m cs f g) Q := by
  obtain ⟨v, rfl, p⟩ := h
  exact k v p
theorem Gv.tryEr {m : Rx α} {cs : List Nat} {e : Nat} {f : α → Rx β} {g : Nat → Rx β} {Q : β → Prop} (h : m = .er e) (hm : e ∈ cs) (k : Gv (g e) Q) : Gv (tryR m cs f g) Q := by
  subst h
  rw [tryR_er hm]
  exact k
theorem Gv.get {m : Rx α} {a : α} (h : Gv m (fun v => v = a)) : m = .ok a := by
  obtain ⟨v, e, rfl⟩ := h
  exact e
theorem Gv.eq {m : Rx α} {P : α → Prop} (h : Gv m P) : ∃ v, m = .ok v ∧ P v := h
/-- a loop that keeps P -/
theorem Gv.forS {P : Nat → σ → Prop} {xs : List α} {s : σ} {f : σ → α → Rx σ} (h0 : P 0 s) (hs : ∀ i x s, xs[i]? = some x → P i s → Gv (f s x) (P (i + 1))) : Gv (Vx.forS xs s f) (P xs.length) := by
  induction xs generalizing s P with
  | nil => exact .ok h0
  | cons x r ih =>
    refine Gv.bind (hs 0 x s rfl h0) fun s' p => ?_
    exact ih (P := fun i => P (i + 1)) p fun i y s hy q => hs (i + 1) y s (by simpa using hy) q
theorem Gv.forR {P : Nat → σ → Prop} {xs : List α} {s : σ} {f : σ → α → Rx (Lp σ ρ)} (h0 : P 0 s) (hs : ∀ i x s, xs[i]? = some x → P i s → Gv (f s x) (fun l => ∃ s', l = .go s' ∧ P (i + 1) s')) : Gv (Vx.forR xs s f) (fun l => ∃ s', l = .go s' ∧ P xs.length s') := by
  induction xs generalizing s P with
  | nil => exact .ok ⟨s, rfl, h0⟩
  | cons x r ih =>
    refine Gv.bind (hs 0 x s rfl h0) ?_
    rintro _ ⟨s', rfl, p⟩
    exact ih (P := fun i => P (i + 1)) p fun i y s hy q => hs (i + 1) y s (by simpa using hy) q
/-- a loop that carries nothing -/
theorem forR_unit {xs : List α} {f : Unit → α → Rx (Lp Unit ρ)} (h : ∀ x ∈ xs, f () x = .ok (.go ())) : Vx.forR xs () f = .ok (.go ()) := by
  induction xs with
  | nil => rfl
  | cons x r ih =>
    show (f () x).bind _ = _
    rw [h x List.mem_cons_self]
    exact ih fun y hy => h y (List.mem_cons_of_mem _ hy)
theorem forS_pure {xs : List α} {s : σ} {f : σ → α → Rx σ} {g : σ → α → σ} (h : ∀ s x, x ∈ xs → f s x = .ok (g s x)) : Vx.forS xs s f = .ok (xs.foldl g s) := by
  induction xs generalizing s with
  | nil => rfl
  | cons x r ih =>
    show (f s x).bind _ = _
    rw [h s x List.mem_cons_self]
    exact ih fun s y hy => h s y (List.mem_cons_of_mem _ hy)
theorem mapA_pure {xs : List α} {acc : List β} {f : α → Rx β} {g : α → β} (h : ∀ x ∈ xs, f x = .ok (g x)) (hl : acc.length + xs.length ≤ 1000000) : mapA xs acc f = .ok (acc ++ xs.map g) := by
  induction xs generalizing acc with
  | nil => simp [mapA]
  | cons x r ih =>
    rw [List.length_cons] at hl
    unfold mapA
    rw [grd_pos (by omega), h x List.mem_cons_self, bind_ok, ih (fun y hy => h y (List.mem_cons_of_mem _ hy)) (by rw [List.length_append, List.length_cons, List.length_nil]; omega)]
    simp
theorem mapA_pure0 {xs : List α} {f : α → Rx β} {g : α → β} (h : ∀ x ∈ xs, f x = .ok (g x)) (hl : xs.length ≤ 1000000) : mapA xs [] f = .ok (xs.map g) := by
  rw [mapA_pure h (by simpa using hl)]
  rfl
theorem mapF_pure {xs : List α} {acc : List β} {f : α → Rx (Option β)} {g : α → Option β} (h : ∀ x ∈ xs, f x = .ok (g x)) (hl : acc.length + xs.length ≤ 1000000) : mapF xs acc f = .ok (acc ++ xs.filterMap g) := by
  induction xs generalizing acc with
  | nil => simp [mapF]
  | cons x r ih =>
    rw [List.length_cons] at hl
    unfold mapF
    rw [grd_pos (by omega), h x List.mem_cons_self, bind_ok]
    cases e : g x with
    | none =>
      show mapF r acc f = _
      rw [ih (fun y hy => h y (List.mem_cons_of_mem _ hy)) (by omega), List.filterMap_cons, e]
    | some z =>
      show mapF r (acc ++ [z]) f = _
      rw [ih (fun y hy => h y (List.mem_cons_of_mem _ hy)) (by rw [List.length_append, List.length_cons, List.length_nil]; omega), List.filterMap_cons, e]
      simp
/-- a while that ends: m falls -/
theorem Gv.whileR {P : σ → Prop} {R : σ → Prop} (m : σ → Nat) {f : σ → Rx (Lp σ ρ)} (hs : ∀ s, P s → Gv (f s) (fun l => (∃ s', l = .go s' ∧ P s' ∧ m s' < m s) ∨ ∃ s', l = .bk s' ∧ R s')) : ∀ {n : Nat} {s : σ}, P s → m s < n → Gv (Vx.whileR n s f) (fun l => ∃ s', l = .go s' ∧ R s') := by
  intro n
  induction n with
  | zero => intro s _ h; exact absurd h (Nat.not_lt_zero _)
  | succ n ih =>
    intro s p h
    refine Gv.bind (hs s p) ?_
    rintro _ (⟨s', rfl, p', l⟩ | ⟨s', rfl, r⟩)
    · exact ih p' (by omega)
    · exact .ok ⟨s', rfl, r⟩
end
theorem rng_mem {lo x : Int} {n : Nat} (h : x ∈ rng lo n) : lo ≤ x ∧ x < lo + n := by
  unfold rng at h
  obtain ⟨j, hj, rfl⟩ := List.mem_map.mp h
  have := List.mem_range.mp hj
  omega
theorem rng_at {lo x : Int} {n i : Nat} (h : (rng lo n)[i]? = some x) : x = lo + i ∧ i < n := by
  have hl := get_len h
  rw [rng_len] at hl
  rw [rng_get hl] at h
  exact ⟨(Option.some.inj h).symm, hl⟩
end Vx
namespace Vx
open PySem PySem.Spec PyProof.Rows L2
def F__law_order_k3 (size_51 : Int) (places_52 : (List (Int × Int))) (total_53 : Int) (row_54 : Int) : Rx ((List (Int × Int))) :=
  (if row_54 < size_51 then (if (total_53 - row_54) < size_51 then grd ((places_52).length ≤ 1000000) <| bnd ((places_52) ++ [(row_54, (total_53 - row_54))]) fun y88 => .ok (y88) else .ok (places_52)) else .ok (places_52))

def F__law_order_b2 (size_32 : Int) (total_33 : Int) (places_47 : (List (Int × Int))) (it50 : Int) : Rx ((List (Int × Int))) :=
  Rx.bind (((if ((total_33 % 2) : Int) = 0 then bnd ((total_33 - it50)) fun row_59 => .ok (row_59) else .ok (it50)) : Rx (Int))) fun s => F__law_order_k3 (size_32) (places_47) (total_33) s

def F__law_order_r2 (places_95 : (List (Int × Int))) : Rx ((List (Int × Int))) :=
  .ok (places_95)

def F__law_order_b1 (size_12 : Int) (places_27 : (List (Int × Int))) (it30 : Int) : Rx ((List (Int × Int))) :=
  grd (-(2 ^ 62) ≤ (it30 + 1) ∧ (it30 + 1) < 2 ^ 62) <| Rx.bind (forS (rng (0) (Int.toNat ((it30 + 1)))) (places_27) (fun s x => F__law_order_b2 (size_12) (it30) s x)) fun s => F__law_order_r2  s

def F__law_order_r1 (places_102 : (List (Int × Int))) : Rx (List (Int × Int)) :=
  .ok (places_102)

def F__law_order (size' : Int) : Rx (List (Int × Int)) :=
  grd (-(2 ^ 62) ≤ ((2 * size') - 1) ∧ ((2 * size') - 1) < 2 ^ 62) <| Rx.bind (forS (rng (0) (Int.toNat (((2 * size') - 1)))) (([] : (List (Int × Int)))) (fun s x => F__law_order_b1 (size') s x)) fun s => F__law_order_r1  s

def F_check_size (size' : Int) : Rx Unit :=
  (if (size' : Int) ∈ ([4, 8] : List Int) then .ok (()) else .er 1)

def F_scan_order_c2 (size_139 : Int) (total_140 : Int) (it171 : Int) : Rx (Option (Int × Int)) :=
  (if 0 ≤ (total_140 - it171) then (if (total_140 - it171) < size_139 then .ok (some ((it171, (total_140 - it171)))) else .ok none) else .ok none)

def F_scan_order_k3 (order_207 : (List (Int × Int))) (diagonal_208 : (List (Int × Int))) : Rx ((List (Int × Int))) :=
  grd ((order_207).length + (diagonal_208).length ≤ 1000000) <| bnd ((order_207) ++ (diagonal_208)) fun y242 => .ok (y242)

def F_scan_order_b1 (size_120 : Int) (order_134 : (List (Int × Int))) (it137 : Int) : Rx ((List (Int × Int))) :=
  grd (-(2 ^ 62) ≤ size_120 ∧ size_120 < 2 ^ 62) <| Rx.bind (mapF (rng (0) (Int.toNat (size_120))) [] (fun x => noEr (F_scan_order_c2 (size_120) (it137) x))) fun v141 => Rx.bind (((if ((it137 % 2) : Int) = 0 then bnd ((v141).reverse) fun y221 => .ok (y221) else .ok (v141)) : Rx ((List (Int × Int))))) fun s => F_scan_order_k3 (order_134) s

def F_scan_order_r1 (order_249 : (List (Int × Int))) : Rx (List (Int × Int)) :=
  .ok (order_249)

def F_scan_order (size' : Int) : Rx (List (Int × Int)) :=
  Rx.bind (F_check_size size') fun v108 => grd (-(2 ^ 62) ≤ ((2 * size') - 1) ∧ ((2 * size') - 1) < 2 ^ 62) <| Rx.bind (forS (rng (0) (Int.toNat (((2 * size') - 1)))) (([] : (List (Int × Int)))) (fun s x => F_scan_order_b1 (size') s x)) fun s => F_scan_order_r1  s

def F__law_digits_b1 (base_261 : Int) (large_262 : Bool) (cell_274 : Int) (digits_275 : (List Int)) (it278 : Int) : Rx (Int × (List Int)) :=
  (if large_262 = true then grd (0 < (base_261 : Int)) <| grd ((digits_275).length ≤ 1000000) <| bnd ((digits_275) ++ [(cell_274 % base_261)]) fun y288 => grd (0 < (base_261 : Int) ∧ (base_261 : Int) < 2 ^ 128) <| bnd ((cell_274 / base_261)) fun cell_290 => .ok ((cell_290), (y288)) else grd ((-(2 ^ 64) < ((it278 + 1) : Int) ∧ ((it278 + 1) : Int) < 2 ^ 64) ∨ (-(2 ^ 64) < ((it278 + 5) : Int) ∧ ((it278 + 5) : Int) < 2 ^ 64)) <| grd ((-(2 ^ 64) < ((cell_274 / 97) : Int) ∧ ((cell_274 / 97) : Int) < 2 ^ 64) ∨ (-(2 ^ 64) < (it278 : Int) ∧ (it278 : Int) < 2 ^ 64)) <| grd (0 < (base_261 : Int)) <| grd ((digits_275).length ≤ 1000000) <| bnd ((digits_275) ++ [(((((cell_274 * 48271) + (((it278 + 1) * (it278 + 5)) * 69621)) + ((cell_274 / 97) * it278)) % 2147483647) % base_261)]) fun y301 => .ok ((cell_274), (y301)))

def F__law_digits_r1 (cell_307 : Int) (digits_308 : (List Int)) : Rx (List Int) :=
  .ok (digits_308)

def F__law_digits (cell' : Int) (base' : Int) (most' : Int) : Rx (List Int) :=
  bnd (decide (((10 : Int) ^ Int.toNat 18) ≤ cell')) fun large_259 => grd (-(2 ^ 62) ≤ most' ∧ most' < 2 ^ 62) <| Rx.bind (forS (rng (0) (Int.toNat (most'))) ((cell'), (([] : (List Int)))) (fun s x => F__law_digits_b1 (base') (large_259) (s.1) (s.2) x)) fun s => F__law_digits_r1  (s.1) (s.2)

def F_check_square_b1 (square_314 : (List (List Int))) (it332 : (List Int)) : Rx Unit :=
  (if ((((it332) : (List Int)).length : Int) : Int) = (((square_314) : (List (List Int))).length : Int) then .ok () else .er 1)

def F_check_square_r1  : Rx Unit :=
  .ok (())

def F_check_square (square' : (List (List Int))) : Rx Unit :=
  Rx.bind (F_check_size ((((square') : (List (List Int))).length : Int))) fun v313 => Rx.bind (forS (square') () (fun s x => F_check_square_b1 (square')  x)) fun s => F_check_square_r1  

def F_to_levels_c1 (square_361 : (List (List Int))) (it412 : (Int × Int)) : Rx Int :=
  grd (-((square_361 : (List (List Int))).length : Int) ≤ it412.1 ∧ it412.1 < ((square_361 : (List (List Int))).length : Int)) <| grd (-(((itD (square_361) (it412.1)) : (List Int)).length : Int) ≤ it412.2 ∧ it412.2 < (((itD (square_361) (it412.1)) : (List Int)).length : Int)) <| .ok ((itD ((itD (square_361) (it412.1))) (it412.2)))

def F_to_levels (square' : (List (List Int))) : Rx (List Int) :=
  Rx.bind (F_check_square (square')) fun v342 => Rx.bind (F_scan_order ((((square') : (List (List Int))).length : Int))) fun v346 => Rx.bind (mapA (v346) [] (fun x => noEr (F_to_levels_c1 (square') x))) fun v362 => .ok (v362)

def F_to_square_c1 (size_444 : Int) (it473 : Int) : Rx (List Int) :=
  grd (-(2 ^ 63) ≤ (size_444 : Int) ∧ (size_444 : Int) < 2 ^ 63 ∧ ([0]).length * Int.toNat (size_444) ≤ 1000000) <| .ok (repL ([0]) (size_444))

def F_to_square_b2 (square_579 : (List (List Int))) (it582 : (Int × (Int × Int))) : Rx ((List (List Int))) :=
  grd (-((square_579 : (List (List Int))).length : Int) ≤ it582.2.1 ∧ it582.2.1 < ((square_579 : (List (List Int))).length : Int)) <| grd (-(((itD (square_579) (it582.2.1)) : (List Int)).length : Int) ≤ it582.2.2 ∧ it582.2.2 < (((itD (square_579) (it582.2.1)) : (List Int)).length : Int)) <| bnd (setL (square_579) (it582.2.1) (setL ((itD (square_579) (it582.2.1))) (it582.2.2) (it582.1))) fun y603 => .ok (y603)

def F_to_square_r2 (square_615 : (List (List Int))) : Rx (List (List Int)) :=
  .ok (square_615)

def F_to_square (levels' : (List Int)) : Rx (List (List Int)) :=
  (if ((((levels') : (List Int)).length : Int) : Int) ∈ ([16, 64] : List Int) then grd (((((levels') : (List Int)).length : Int) : Int) ∈ ([16, 64] : List Int)) <| bnd ((dictI [(16, 4), (64, 8)] ((((levels') : (List Int)).length : Int)))) fun size_442 => grd (-(2 ^ 62) ≤ size_442 ∧ size_442 < 2 ^ 62) <| Rx.bind (mapA (rng (0) (Int.toNat (size_442))) [] (fun x => noEr (F_to_square_c1 (size_442) x))) fun v445 => Rx.bind (F_scan_order size_442) fun v513 => Rx.bind (forS (List.zip (levels') (v513)) (v445) (fun s x => F_to_square_b2  s x)) fun s => F_to_square_r2  s else .er 1)

def F__law_cell (script' : (List Int)) (k' : Int) : Rx Int :=
  (if k' < (((script') : (List Int)).length : Int) then grd (-((script' : (List Int)).length : Int) ≤ k' ∧ k' < ((script' : (List Int)).length : Int)) <| .ok ((if (itD (script') (k')) < 0 then -(itD (script') (k')) else (itD (script') (k')))) else .ok (0))

def F__law_is_integers_b1 (it633 : Int) : Rx (Lp Unit Bool) :=
  .ok (.go ())

def F__law_is_integers_r1  : Rx Bool :=
  .ok (true)

def F__law_is_integers (actual' : (List Int)) (count' : Int) : Rx Bool :=
  (if ((((actual') : (List Int)).length : Int) : Int) = count' then Rx.bind (forR (actual') () (fun s x => F__law_is_integers_b1   x)) fun l => l.aft Rx.ok fun s => F__law_is_integers_r1   else .ok (false))

def F__law_is_square_b2 (it678 : Int) : Rx (Lp Unit Bool) :=
  .ok (.go ())

def F__law_is_square_r2  : Rx (Lp Unit Bool) :=
  .ok (.go ())

def F__law_is_square_b1 (size_643 : Int) (it662 : (List Int)) : Rx (Lp Unit Bool) :=
  (if ((((it662) : (List Int)).length : Int) : Int) = size_643 then Rx.bind (forR (it662) () (fun s x => F__law_is_square_b2   x)) fun l => l.aft (fun r => .ok (.rt r)) fun s => F__law_is_square_r2   else .ok (.rt (false)))

def F__law_is_square_r1  : Rx Bool :=
  .ok (true)

def F__law_is_square (actual' : (List (List Int))) (size' : Int) : Rx Bool :=
  (if ((((actual') : (List (List Int))).length : Int) : Int) = size' then Rx.bind (forR (actual') () (fun s x => F__law_is_square_b1 (size')  x)) fun l => l.aft Rx.ok fun s => F__law_is_square_r1   else .ok (false))

def F__law_refused_k3 (told_771 : Int) : Rx Bool :=
  .ok (decide ((told_771 : Int) = 3))

def F__law_refused_k2 (rows_720 : (List (List Int))) (told_721 : Int) : Rx Bool :=
  Rx.bind ((tryR (F_to_levels (rows_720)) [1] (fun v775 => .ok (told_721)) (fun _ => bnd ((told_721 + 1)) fun told_787 => .ok (told_787)) : Rx (Int))) fun s => F__law_refused_k3  s

def F__law_refused_k1 (count_691 : Int) (rows_692 : (List (List Int))) (told_693 : Int) : Rx Bool :=
  Rx.bind ((grd (-(2 ^ 63) ≤ (count_691 : Int) ∧ (count_691 : Int) < 2 ^ 63 ∧ ([0]).length * Int.toNat (count_691) ≤ 1000000) <| tryR (F_to_square (repL ([0]) (count_691))) [1] (fun v744 => .ok (told_693)) (fun _ => bnd ((told_693 + 1)) fun told_766 => .ok (told_766)) : Rx (Int))) fun s => F__law_refused_k2 (rows_692) s

def F__law_refused (size' : Int) (count' : Int) (rows' : (List (List Int))) : Rx Bool :=
  Rx.bind ((tryR (F_scan_order size') [1] (fun v697 => .ok (0)) (fun _ => bnd ((0 + 1)) fun told_715 => .ok (told_715)) : Rx (Int))) fun s => F__law_refused_k1 (count') (rows') s

def F_law_c3 (it942 : Int) : Rx Int :=
  .ok (((7 * it942) - 100))

def F_law_c5 (size_1011 : Int) (digits_1012 : (List Int)) (j_1013 : Int) (it1050 : Int) : Rx Int :=
  grd ((-(2 ^ 64) < (j_1013 : Int) ∧ (j_1013 : Int) < 2 ^ 64) ∨ (-(2 ^ 64) < (size_1011 : Int) ∧ (size_1011 : Int) < 2 ^ 64)) <| grd (-((digits_1012 : (List Int)).length : Int) ≤ ((j_1013 * size_1011) + it1050) ∧ ((j_1013 * size_1011) + it1050) < ((digits_1012 : (List Int)).length : Int)) <| .ok (((itD (digits_1012) (((j_1013 * size_1011) + it1050))) - 1000))

def F_law_c4 (size_975 : Int) (digits_976 : (List Int)) (it1009 : Int) : Rx (List Int) :=
  grd (-(2 ^ 62) ≤ size_975 ∧ size_975 < 2 ^ 62) <| Rx.bind (mapA (rng (0) (Int.toNat (size_975))) [] (fun x => noEr (F_law_c5 (size_975) (digits_976) (it1009) x))) fun v1014 => .ok v1014

def F_law_c6 (rows_1121 : (List (List Int))) (it1184 : (Int × Int)) : Rx Int :=
  grd (-((rows_1121 : (List (List Int))).length : Int) ≤ it1184.1 ∧ it1184.1 < ((rows_1121 : (List (List Int))).length : Int)) <| grd (-(((itD (rows_1121) (it1184.1)) : (List Int)).length : Int) ≤ it1184.2 ∧ it1184.2 < (((itD (rows_1121) (it1184.1)) : (List Int)).length : Int)) <| .ok ((itD ((itD (rows_1121) (it1184.1))) (it1184.2)))

def F_law_c9 (it1390 : (List Int)) : Rx (List Int) :=
  .ok it1390

def F_law_c11 (wrong_1583 : Int) (it1632 : Int) : Rx (List Int) :=
  grd (-(2 ^ 63) ≤ (wrong_1583 : Int) ∧ (wrong_1583 : Int) < 2 ^ 63 ∧ ([0]).length * Int.toNat (wrong_1583) ≤ 1000000) <| .ok (repL ([0]) (wrong_1583))

def F_law_c12 (it1785 : (List Int)) : Rx (List Int) :=
  .ok it1785

def F_law_c13 (size_1875 : Int) (it1924 : Int) : Rx (List Int) :=
  grd (-(2 ^ 63) ≤ ((12 - size_1875) : Int) ∧ ((12 - size_1875) : Int) < 2 ^ 63 ∧ ([0]).length * Int.toNat ((12 - size_1875)) ≤ 1000000) <| .ok (repL ([0]) ((12 - size_1875)))

def F_law_k10 (cell_1436 : Int) (size_1437 : Int) (rows_1438 : (List (List Int))) (wrong_1439 : Int) (count_1440 : Int) (bad_1441 : (List (List Int))) : Rx (Lp Unit Bool) :=
  grd (-(2 ^ 62) ≤ wrong_1439 ∧ wrong_1439 < 2 ^ 62) <| Rx.bind (mapA (rng (0) (Int.toNat (wrong_1439))) [] (fun x => noEr (F_law_c11 (wrong_1439) x))) fun v1584 => Rx.bind (F__law_refused wrong_1439 count_1440 (v1584)) fun v1695 => (if v1695 = true then Rx.bind (F__law_refused 5 65 (bad_1441)) fun v1702 => (if v1702 = true then Rx.bind (mapA (rows_1438) [] (fun x => noEr (F_law_c12  x))) fun v1708 => grd (-(2 ^ 63) ≤ ((12 - size_1437) : Int) ∧ ((12 - size_1437) : Int) < 2 ^ 63 ∧ ([0]).length * Int.toNat ((12 - size_1437)) ≤ 1000000) <| grd (0 < (size_1437 : Int)) <| grd (-((v1708).length : Int) ≤ ((cell_1436 / 51) % size_1437) ∧ ((cell_1436 / 51) % size_1437) < ((v1708).length : Int)) <| bnd (setL (v1708) (((cell_1436 / 51) % size_1437)) (repL ([0]) ((12 - size_1437)))) fun y1868 => Rx.bind (F__law_refused 12 32 (y1868)) fun v1869 => (if v1869 = true then grd (-(2 ^ 62) ≤ size_1437 ∧ size_1437 < 2 ^ 62) <| Rx.bind (mapA (rng (0) (Int.toNat (size_1437))) [] (fun x => noEr (F_law_c13 (size_1437) x))) fun v1876 => Rx.bind (F__law_refused 2 8 (v1876)) fun v1987 => (if v1987 = true then .ok (.go ()) else .ok (.rt (false))) else .ok (.rt (false))) else .ok (.rt (false))) else .ok (.rt (false)))

def F_law_k8 (cell_1297 : Int) (size_1298 : Int) (rows_1299 : (List (List Int))) (wrong_1300 : Int) (count_1301 : Int) : Rx (Lp Unit Bool) :=
  Rx.bind (mapA (rows_1299) [] (fun x => noEr (F_law_c9  x))) fun v1319 => Rx.bind (((if (((cell_1297 / 17) % 3) : Int) = 0 then grd (-(2 ^ 63) ≤ (size_1298 : Int) ∧ (size_1298 : Int) < 2 ^ 63 ∧ ([0]).length * Int.toNat (size_1298) ≤ 1000000) <| grd ((v1319).length ≤ 1000000) <| bnd ((v1319) ++ [repL ([0]) (size_1298)]) fun y1477 => .ok (y1477) else (if (((cell_1297 / 17) % 3) : Int) = 1 then grd (0 < (size_1298 : Int)) <| grd (-((v1319 : (List (List Int))).length : Int) ≤ ((cell_1297 / 51) % size_1298) ∧ ((cell_1297 / 51) % size_1298) < ((v1319 : (List (List Int))).length : Int)) <| grd (((itD (v1319) (((cell_1297 / 51) % size_1298)))).length ≤ 1000000) <| bnd (setL (v1319) (((cell_1297 / 51) % size_1298)) (((itD (v1319) (((cell_1297 / 51) % size_1298)))) ++ [0])) fun y1506 => .ok (y1506) else grd (0 < (size_1298 : Int)) <| grd (-((v1319 : (List (List Int))).length : Int) ≤ ((cell_1297 / 51) % size_1298) ∧ ((cell_1297 / 51) % size_1298) < ((v1319 : (List (List Int))).length : Int)) <| grd (0 < (size_1298 : Int)) <| grd (-((v1319).length : Int) ≤ ((cell_1297 / 51) % size_1298) ∧ ((cell_1297 / 51) % size_1298) < ((v1319).length : Int)) <| bnd (setL (v1319) (((cell_1297 / 51) % size_1298)) (cutL ((itD (v1319) (((cell_1297 / 51) % size_1298)))) (some (1)) none)) fun y1550 => .ok (y1550))) : Rx ((List (List Int))))) fun s => F_law_k10 (cell_1297) (size_1298) (rows_1299) (wrong_1300) (count_1301) s

def F_law_k7 (cell_1269 : Int) (size_1270 : Int) (rows_1271 : (List (List Int))) (count_1272 : Int) (wrong_1273 : Int) : Rx (Lp Unit Bool) :=
  Rx.bind (((if (count_1272 : Int) = 16 then .ok (65) else (if (count_1272 : Int) = 64 then .ok (65) else .ok (count_1272))) : Rx (Int))) fun s => F_law_k8 (cell_1269) (size_1270) (rows_1271) (wrong_1273) s

def F_law_k2 (cell_899 : Int) (size_900 : Int) (places_901 : (List (Int × Int))) (digits_902 : (List Int)) : Rx (Lp Unit Bool) :=
  grd (-(2 ^ 62) ≤ size_900 ∧ size_900 < 2 ^ 62) <| Rx.bind (mapA (rng (0) (Int.toNat (size_900))) [] (fun x => noEr (F_law_c4 (size_900) (digits_902) x))) fun v977 => grd (ShowOk ((encL (encL PyData.int)) (v977))) <| Rx.bind (F_to_levels (v977)) fun v1102 => grd ((-(2 ^ 64) < (size_900 : Int) ∧ (size_900 : Int) < 2 ^ 64) ∨ (-(2 ^ 64) < (size_900 : Int) ∧ (size_900 : Int) < 2 ^ 64)) <| Rx.bind (F__law_is_integers (v1102) ((size_900 * size_900))) fun v1112 => (if v1112 = true then grd (ShowOk ((encL (encL PyData.int)) (v977))) <| (if V.str ((PyData.shown ((encL (encL PyData.int)) (v977)))) = V.str ((PyData.shown ((encL (encL PyData.int)) (v977)))) then Rx.bind (mapA (places_901) [] (fun x => noEr (F_law_c6 (v977) x))) fun v1122 => (if (v1102 : (List Int)) = v1122 then Rx.bind (F_to_square (v1102)) fun v1235 => Rx.bind (F__law_is_square (v1235) size_900) fun v1254 => (if v1254 = true then (if (v1235 : (List (List Int))) = v977 then (if (v1102 : (List Int)) = v1102 then bnd (((cell_899 / 7) % 12)) fun wrong_1267 => bnd (((cell_899 / 11) % 80)) fun count_1268 => Rx.bind (((if (wrong_1267 : Int) = 4 then .ok (5) else (if (wrong_1267 : Int) = 8 then .ok (5) else .ok (wrong_1267))) : Rx (Int))) fun s => F_law_k7 (cell_899) (size_900) (v977) (count_1268) s else .ok (.rt (false))) else .ok (.rt (false))) else .ok (.rt (false))) else .ok (.rt (false))) else .ok (.rt (false))) else .ok (.rt (false)))

def F_law_b1 (script_793 : (List Int)) (it817 : Int) : Rx (Lp Unit Bool) :=
  Rx.bind (F__law_cell (script_793) it817) fun v818 => bnd ((v818 + it817)) fun cell_819 => bnd ((4 + (4 * (cell_819 % 2)))) fun size_820 => Rx.bind (F__law_order size_820) fun v821 => Rx.bind (F_scan_order size_820) fun v835 => (if (v835 : (List (Int × Int))) = v821 then grd ((v835).length ≤ 1000000) <| bnd ((v835) ++ [(0, 0)]) fun y872 => Rx.bind (F_scan_order size_820) fun v873 => (if (v873 : (List (Int × Int))) = v821 then grd ((-(2 ^ 64) < (size_820 : Int) ∧ (size_820 : Int) < 2 ^ 64) ∨ (-(2 ^ 64) < (size_820 : Int) ∧ (size_820 : Int) < 2 ^ 64)) <| Rx.bind (F__law_digits cell_819 2001 ((size_820 * size_820))) fun v890 => Rx.bind (((if (((cell_819 / 2) % 3) : Int) = 0 then grd ((-(2 ^ 64) < (size_820 : Int) ∧ (size_820 : Int) < 2 ^ 64) ∨ (-(2 ^ 64) < (size_820 : Int) ∧ (size_820 : Int) < 2 ^ 64)) <| grd (-(2 ^ 62) ≤ (size_820 * size_820) ∧ (size_820 * size_820) < 2 ^ 62) <| Rx.bind (mapA (rng (0) (Int.toNat ((size_820 * size_820)))) [] (fun x => noEr (F_law_c3  x))) fun v910 => .ok (v910) else .ok (v890)) : Rx ((List Int)))) fun s => F_law_k2 (cell_819) (size_820) (v821) s else .ok (.rt (false))) else .ok (.rt (false)))

def F_law_r1  : Rx Bool :=
  .ok (true)

def F_law (script' : (List Int)) : Rx Bool :=
  grd (-(2 ^ 62) ≤ (if 8 < (1 + (((script') : (List Int)).length : Int)) then 8 else (1 + (((script') : (List Int)).length : Int))) ∧ (if 8 < (1 + (((script') : (List Int)).length : Int)) then 8 else (1 + (((script') : (List Int)).length : Int))) < 2 ^ 62) <| Rx.bind (forR (rng (0) (Int.toNat ((if 8 < (1 + (((script') : (List Int)).length : Int)) then 8 else (1 + (((script') : (List Int)).length : Int)))))) () (fun s x => F_law_b1 (script')  x)) fun l => l.aft Rx.ok fun s => F_law_r1  
theorem cell_gv (s : List Int) (k : Int) (h : 0 ≤ k) : Gv (F__law_cell s k) (fun v => 0 ≤ v) := by
  unfold F__law_cell
  refine Gv.ite (fun c => Gv.grd ⟨by omega, c⟩ (.ok ?_)) fun _ => .ok (by decide)
  split <;> omega
theorem all_snoc {P : Int → Prop} {xs : List Int} {y : Int} (h : ∀ x ∈ xs, P x) (hy : P y) : ∀ x ∈ xs ++ [y], P x := fun x hx => by
  rcases List.mem_append.mp hx with q | q
  · exact h x q
  · rw [List.mem_singleton.mp q]
    exact hy
theorem digits_gv (cell base most : Int) (h0 : 0 < base) (h1 : base < 2 ^ 64) (hm : 0 ≤ most) (hm2 : most ≤ 1000) : Gv (F__law_digits cell base most) (fun v => (v.length : Int) = most ∧ ∀ x ∈ v, 0 ≤ x ∧ x < base) := by
  unfold F__law_digits
  refine Gv.bnd fun large _ => Gv.grd ⟨by omega, by omega⟩ (Gv.bind (Gv.forS (P := fun i s => s.2.length = i ∧ ∀ x ∈ s.2, 0 ≤ x ∧ x < base) ⟨rfl, fun x hx => by cases hx⟩ fun i x s hx p => ?_) fun s p => .ok ⟨?_, p.2⟩)
  · obtain ⟨rfl, hi⟩ := rng_at hx
    have hl := p.1
    unfold F__law_digits_b1
    refine Gv.ite (fun _ => Gv.grd h0 (Gv.grd (by omega) (Gv.bnd fun y hy => Gv.grd ⟨h0, by omega⟩ (Gv.bnd fun c _ => .ok ?_)))) fun _ => Gv.grd ?_ (Gv.grd ?_ (Gv.grd h0 (Gv.grd (by omega) (Gv.bnd fun y hy => .ok ?_))))
    · subst hy
      exact ⟨by rw [List.length_append, hl]; rfl, all_snoc p.2 ⟨Int.emod_nonneg _ (by omega), Int.emod_lt_of_pos _ h0⟩⟩
    · left
      omega
    · right
      omega
    · subst hy
      exact ⟨by rw [List.length_append, hl]; rfl, all_snoc p.2 ⟨Int.emod_nonneg _ (by omega), Int.emod_lt_of_pos _ h0⟩⟩
  · have := p.1
    rw [rng_len] at this
    omega
theorem itD_lit {xs : List Int} {a k : Int} (n : Nat) (e : k = (n : Int)) (h : xs[n]? = some a) : itD xs k = a := by
  subst e
  have hl := get_len h
  unfold itD atI ixN
  rw [if_pos (by omega), if_pos (by omega)]
  show (xs[n]?).getD default = a
  rw [h]
  rfl
theorem ixl {xs : List Int} {k : Int} (n : Nat) (e : xs.length = n) (h0 : 0 ≤ k) (h : k < n) : -(xs.length : Int) ≤ k ∧ k < xs.length := by
  rw [e]
  omega
theorem itD_some {α : Type} [Inhabited α] {xs : List α} {k : Int} (h : -(xs.length : Int) ≤ k ∧ k < xs.length) : ∃ j : Nat, xs[j]? = some (itD xs k) := by
  obtain ⟨j, e, hj⟩ := ixN_some h
  refine ⟨j, ?_⟩
  unfold itD atI
  rw [e, List.getElem?_eq_getElem hj]
  show some xs[j] = some ((xs[j]?).getD default)
  rw [List.getElem?_eq_getElem hj] <;> rfl
theorem itD_mem {α : Type} [Inhabited α] {xs : List α} {k : Int} (h : -(xs.length : Int) ≤ k ∧ k < xs.length) : itD xs k ∈ xs := by
  obtain ⟨j, e⟩ := itD_some h
  exact List.mem_of_getElem? e
theorem itD_map {α β : Type} [Inhabited α] [Inhabited β] {xs : List α} {f : α → β} {k : Int} (h : -(xs.length : Int) ≤ k ∧ k < xs.length) : itD (xs.map f) k = f (itD xs k) := by
  obtain ⟨j, e, hj⟩ := ixN_some h
  unfold itD atI
  rw [List.length_map, e]
  show ((xs.map f)[j]?).getD default = f ((xs[j]?).getD default)
  rw [List.getElem?_map, List.getElem?_eq_getElem hj] <;> rfl
theorem itD_nat {α : Type} [Inhabited α] {xs : List α} {k : Int} {j : Nat} (e : k = (j : Int)) (h : j < xs.length) : itD xs k = xs[j] := by
  subst e
  unfold itD atI ixN
  rw [if_pos (by omega), if_pos (by omega)]
  show (xs[j]?).getD default = _
  rw [List.getElem?_eq_getElem h] <;> rfl
theorem setL_mem {α : Type} {xs : List α} {k : Int} {y z : α} (h : z ∈ setL xs k y) : z ∈ xs ∨ z = y := by
  unfold setL at h
  exact List.mem_or_eq_of_mem_set h
theorem setL_len {α : Type} {xs : List α} {k : Int} {y : α} : (setL xs k y).length = xs.length := by
  unfold setL
  rw [List.length_set]
/-! ### rows -/
theorem size4 : F_check_size (4 : Int) = .ok () := by
  unfold F_check_size
  rw [if_pos (by decide)]
theorem size8 : F_check_size (8 : Int) = .ok () := by
  unfold F_check_size
  rw [if_pos (by decide)]
theorem size_er {n : Int} (h4 : n ≠ 4) (h8 : n ≠ 8) : F_check_size n = .er 1 := by
  unfold F_check_size
  rw [if_neg (by simp [h4, h8])]
def N48 (n : Nat) : Prop := n = 4 ∨ n = 8
theorem N48.pos {n : Nat} (h : N48 n) : 0 < n := by rcases h with rfl | rfl <;> decide
theorem small48 {n : Nat} (hn : N48 n) : n ≤ 8 := by rcases hn with rfl | rfl <;> decide
def Sq (n : Nat) (M : List (List Int)) : Prop := M.length = n ∧ ∀ r ∈ M, r.length = n
def at2 (M : List (List Int)) (j i : Nat) : Int := itD (itD M (j : Int)) (i : Int)
theorem itDn {α : Type} [Inhabited α] {xs : List α} {j : Nat} (h : j < xs.length) : itD xs (j : Int) = xs[j] := itD_nat rfl h
theorem Sq.row {n : Nat} {M : List (List Int)} (h : Sq n M) {j : Nat} (hj : j < n) : (itD M (j : Int)).length = n := by
  rw [itDn (by rw [h.1]; exact hj)]
  exact h.2 _ (List.getElem_mem _)
theorem sq_ext {n : Nat} {A B : List (List Int)} (ha : Sq n A) (hb : Sq n B) (h : ∀ j i, j < n → i < n → at2 A j i = at2 B j i) : A = B := by
  apply List.ext_getElem (by rw [ha.1, hb.1])
  intro j h1 h2
  have hj : j < n := by rw [← ha.1]; exact h1
  apply List.ext_getElem (by rw [ha.2 _ (List.getElem_mem _), hb.2 _ (List.getElem_mem _)])
  intro i q1 q2
  have hi : i < n := by rw [← ha.2 _ (List.getElem_mem h1)]; exact q1
  have := h j i hj hi
  unfold at2 at this
  rw [itDn h1, itDn h2, itDn q1, itDn q2] at this
  exact this
theorem Sq.map {n : Nat} {M : List (List Int)} {g : List Int → List Int} (h : Sq n M) (hg : ∀ l, l.length = n → (g l).length = n) : Sq n (M.map g) :=
  ⟨by rw [List.length_map, h.1], fun r hr => by
    obtain ⟨l, hl, rfl⟩ := List.mem_map.mp hr
    exact hg l (h.2 l hl)⟩
theorem map_id' {n : Nat} {M : List (List Int)} {g : List Int → List Int} (h : Sq n M) (hg : ∀ l, l.length = n → g l = l) : M.map g = M := by
  conv => rhs; rw [← List.map_id M]
  exact List.map_congr_left fun l hl => hg l (h.2 l hl)
theorem check_ok {n : Nat} {M : List (List Int)} (h : Sq n M) (hn : N48 n) : F_check_square M = .ok () := by
  unfold F_check_square
  have e : F_check_size (M.length : Int) = .ok () := by
    rw [h.1]
    rcases hn with rfl | rfl
    · exact size4
    · exact size8
  rw [e, bind_ok, forS_pure (g := fun _ _ => ()) (fun s x hx => ?_)]
  · rfl
  · unfold F_check_square_b1
    rw [if_pos (by rw [h.1, h.2 x hx])]
theorem forS_er {α : Type} {e : Nat} {xs : List α} {f : Unit → α → Rx Unit} (h : ∀ x ∈ xs, f () x = .ok () ∨ f () x = .er e) (h2 : ∃ x ∈ xs, f () x = .er e) : forS xs () f = .er e := by
  induction xs with
  | nil => obtain ⟨x, hx, _⟩ := h2; cases hx
  | cons x r ih =>
    show (f () x).bind _ = _
    rcases h x List.mem_cons_self with q | q
    · rw [q, bind_ok]
      refine ih (fun y hy => h y (List.mem_cons_of_mem _ hy)) ?_
      obtain ⟨y, hy, hz⟩ := h2
      rcases List.mem_cons.mp hy with rfl | hy
      · rw [q] at hz; cases hz
      · exact ⟨y, hy, hz⟩
    · rw [q]; rfl
theorem check_er {M : List (List Int)} (h : ¬ N48 M.length ∨ ∃ r ∈ M, r.length ≠ M.length) : F_check_square M = .er 1 := by
  unfold F_check_square
  by_cases hn : N48 M.length
  · have h2 := h.resolve_left (fun z => z hn)
    have e : F_check_size (M.length : Int) = .ok () := by
      rcases hn with q | q
      · rw [q]; exact size4
      · rw [q]; exact size8
    have k1 : ∀ x ∈ M, F_check_square_b1 M x = .ok () ∨ F_check_square_b1 M x = .er 1 := fun x _ => by
      unfold F_check_square_b1
      by_cases q : ((x.length : Nat) : Int) = M.length
      · exact .inl (if_pos q)
      · exact .inr (if_neg q)
    have k2 : ∃ x ∈ M, F_check_square_b1 M x = .er 1 := by
      obtain ⟨r, hr, ne⟩ := h2
      refine ⟨r, hr, ?_⟩
      unfold F_check_square_b1
      exact if_neg (by omega)
    rw [e, bind_ok, forS_er (f := fun s x => F_check_square_b1 M x) k1 k2]
    rfl
  · rw [size_er (fun z => hn (.inl (by omega))) (fun z => hn (.inr (by omega)))]
    rfl
theorem nn_le {n : Nat} (hn : N48 n) : n * n ≤ 64 := by rcases hn with rfl | rfl <;> decide
theorem setL_nat {α : Type} {xs : List α} {k : Nat} {y : α} (h : k < xs.length) : setL xs (k : Int) y = xs.set k y := by
  unfold setL ixN
  rw [if_pos (by omega), if_pos (by omega)]
  rfl
theorem itD_set {α : Type} [Inhabited α] {xs : List α} {k j : Nat} {y : α} (hk : k < xs.length) (hj : j < xs.length) : itD (setL xs (k : Int) y) (j : Int) = if k = j then y else itD xs (j : Int) := by
  rw [setL_nat hk, itDn (by rw [List.length_set]; exact hj), itDn hj, List.getElem_set]
theorem set_sq {n : Nat} {M : List (List Int)} {j i : Nat} {v : Int} (h : Sq n M) (hj : j < n) : Sq n (setL M (j : Int) (setL (itD M (j : Int)) (i : Int) v)) := by
  refine ⟨by rw [setL_len, h.1], fun r hr => ?_⟩
  rcases setL_mem hr with q | rfl
  · exact h.2 r q
  · rw [setL_len, h.row hj]
theorem set_at {n : Nat} {M : List (List Int)} {j i a b : Nat} {v : Int} (h : Sq n M) (hj : j < n) (hi : i < n) (ha : a < n) (hb : b < n) : at2 (setL M (j : Int) (setL (itD M (j : Int)) (i : Int) v)) a b = if j = a ∧ i = b then v else at2 M a b := by
  unfold at2
  rw [itD_set (by rw [h.1]; exact hj) (by rw [h.1]; exact ha)]
  by_cases q : j = a
  · subst q
    rw [if_pos rfl, itD_set (by rw [h.row hj]; exact hi) (by rw [h.row hj]; exact hb)]
    by_cases z : i = b
    · rw [if_pos z, if_pos ⟨rfl, z⟩]
    · rw [if_neg z, if_neg (fun w => z w.2)]
  · rw [if_neg q, if_neg (fun w => q w.1)]
theorem repl_one {x : Int} {k : Nat} : repL [x] (k : Int) = List.replicate k x := by
  unfold repL
  rw [Int.toNat_natCast]
  induction k with
  | zero => rfl
  | succ k ih => rw [List.replicate_succ, List.flatten_cons, ih]; rfl
theorem repl_len {x k : Int} (h : 0 ≤ k) : (repL [x] k).length = k.toNat := by
  obtain ⟨j, rfl⟩ : ∃ j : Nat, k = (j : Int) := ⟨k.toNat, by omega⟩
  rw [repl_one, List.length_replicate, Int.toNat_natCast]
theorem mem_setL {α : Type} {xs : List α} {k : Int} {y : α} (h : -(xs.length : Int) ≤ k ∧ k < xs.length) : y ∈ setL xs k y := by
  obtain ⟨j, e, hj⟩ := ixN_some h
  unfold setL
  rw [e]
  exact List.mem_set hj y
/-! the order of a transform block -/
def okIs {α : Type} [DecidableEq α] (m : Rx α) (a : α) : Bool := match m with | .ok x => decide (x = a) | _ => false
theorem of_okIs {α : Type} [DecidableEq α] {m : Rx α} {a : α} (h : okIs m a = true) : m = .ok a := by
  cases m with
  | ok x => rw [of_decide_eq_true (show decide (x = a) = true from h)]
  | er e => cases h
  | bad => cases h
def okVal {α : Type} [Inhabited α] (m : Rx α) : α := match m with | .ok x => x | _ => default
/-- the order, as the program gives it -/
def so (n : Nat) : List (Int × Int) := okVal (F_scan_order (n : Int))
theorem so_eq {n : Nat} (hn : N48 n) : F_scan_order (n : Int) = .ok (so n) := by
  rcases hn with rfl | rfl
  · exact of_okIs (by decide +kernel)
  · exact of_okIs (by decide +kernel)
def soOk (n : Nat) : Bool := decide ((so n).length = n * n) && (so n).all (fun p => decide (0 ≤ p.1 ∧ p.1 < n ∧ 0 ≤ p.2 ∧ p.2 < n)) && decide (so n).Nodup
theorem soOk_eq {n : Nat} (hn : N48 n) : soOk n = true := by
  rcases hn with rfl | rfl
  · decide +kernel
  · decide +kernel
theorem so_facts {n : Nat} (hn : N48 n) : (so n).length = n * n ∧ (∀ p ∈ so n, 0 ≤ p.1 ∧ p.1 < n ∧ 0 ≤ p.2 ∧ p.2 < n) ∧ (so n).Nodup := by
  have h := soOk_eq hn
  unfold soOk at h
  simp only [Bool.and_eq_true, decide_eq_true_eq, List.all_eq_true] at h
  exact ⟨h.1.1, h.1.2, h.2⟩
/-- the place of the j-th level -/
def ror (n j : Nat) : Nat := ((so n)[j]?.getD default).1.toNat
def cor (n j : Nat) : Nat := ((so n)[j]?.getD default).2.toNat
section
variable {n j : Nat}
theorem so_at (hn : N48 n) (hj : j < n * n) : (so n)[j]? = some ((ror n j : Int), (cor n j : Int)) ∧ ror n j < n ∧ cor n j < n := by
  obtain ⟨h1, h2, _⟩ := so_facts hn
  have hl : j < (so n).length := by rw [h1]; exact hj
  have e := List.getElem?_eq_getElem hl
  have b := h2 _ (List.getElem_mem hl)
  unfold ror cor
  rw [e]
  simp only [Option.getD_some]
  refine ⟨?_, by omega, by omega⟩
  congr 1
  exact Prod.ext (by show _ = ((_ : Nat) : Int); omega) (by show _ = ((_ : Nat) : Int); omega)
theorem so_inj (hn : N48 n) {i : Nat} (hi : i < n * n) (hj : j < n * n) (h1 : ror n i = ror n j) (h2 : cor n i = cor n j) : i = j := by
  obtain ⟨l1, _, nd⟩ := so_facts hn
  have a := (so_at hn hi).1
  have b := (so_at hn hj).1
  rw [h1, h2, ← b] at a
  exact (List.getElem?_inj (by rw [l1]; exact hi) nd).mp a
end
/-! ### a square set at places -/
section
variable {n : Nat} {M : List (List Int)}
end
/-- levels in their square -/
theorem to_square_gv {n : Nat} {L : List Int} (hn : N48 n) (hl : L.length = n * n) : Gv (F_to_square L) (fun M => Sq n M ∧ ∀ j, j < n * n → at2 M (ror n j) (cor n j) = itD L (j : Int)) := by
  have hs := small48 hn
  have hp := hn.pos
  have hin : (L.length : Int) ∈ ([16, 64] : List Int) := by rw [hl]; rcases hn with rfl | rfl <;> simp
  have hd : dictI [(16, 4), (64, 8)] (L.length : Int) = n := by rw [hl]; rcases hn with rfl | rfl <;> rfl
  unfold F_to_square
  refine Gv.pos hin (Gv.grd hin (Gv.bnd fun size hsize => ?_))
  rw [hd] at hsize
  subst hsize
  refine Gv.grd ⟨by omega, by omega⟩ ?_
  rw [Int.toNat_natCast]
  refine Gv.bind_eq (mapA_pure0 (g := fun _ => List.replicate n (0 : Int)) (fun x hx => ?_) (by rw [rng_len]; omega)) (Gv.bind_eq (so_eq hn) ?_)
  · unfold F_to_square_c1
    rw [grd_pos ⟨by omega, by omega, by show 1 * _ ≤ _; omega⟩, repl_one]
    rfl
  have s0 : Sq n ((rng 0 n).map fun _ => List.replicate n (0 : Int)) := ⟨by rw [List.length_map, rng_len], fun r hr => by obtain ⟨_, _, rfl⟩ := List.mem_map.mp hr; exact List.length_replicate⟩
  have hzl : (List.zip L (so n)).length = n * n := by rw [List.length_zip, hl, (so_facts hn).1, Nat.min_self]
  refine Gv.bind (Gv.forS (P := fun i M => Sq n M ∧ ∀ j, j < i → j < n * n → at2 M (ror n j) (cor n j) = itD L (j : Int)) ⟨s0, fun j hj _ => absurd hj (Nat.not_lt_zero _)⟩ fun i x M hx p => ?_) fun M p => .ok ⟨p.1, fun j hj => p.2 j (by rw [hzl]; exact hj) hj⟩
  have hi : i < n * n := by rw [← hzl]; exact get_len hx
  obtain ⟨h1, h2⟩ := List.getElem?_zip_eq_some.mp hx
  obtain ⟨a, ar, ac⟩ := so_at hn hi
  rw [a] at h2
  injection h2 with h2
  have hx1 : x.1 = itD L (i : Int) := by
    rw [itDn (by rw [hl]; exact hi)]
    rw [List.getElem?_eq_getElem (by rw [hl]; exact hi)] at h1
    injection h1 with h1
    exact h1.symm
  unfold F_to_square_b2
  rw [← h2, hx1]
  refine Gv.grd (by rw [p.1.1]; show -(n : Int) ≤ ((ror n i : Nat) : Int) ∧ ((ror n i : Nat) : Int) < n; omega) (Gv.grd (by rw [show itD M ((ror n i : Int), (cor n i : Int)).1 = itD M (ror n i : Int) from rfl, p.1.row ar]; show -(n : Int) ≤ ((cor n i : Nat) : Int) ∧ ((cor n i : Nat) : Int) < n; omega) (Gv.bnd fun y hy => .ok ?_))
  subst hy
  refine ⟨set_sq p.1 ar, fun j hj hjn => ?_⟩
  obtain ⟨_, br, bc⟩ := so_at hn hjn
  show at2 (setL M (ror n i : Int) (setL (itD M (ror n i : Int)) (cor n i : Int) (itD L (i : Int)))) _ _ = _
  rw [set_at p.1 ar ac br bc]
  by_cases e : i = j
  · subst e
    rw [if_pos ⟨rfl, rfl⟩]
  · rw [if_neg (fun w => e (so_inj hn hi hjn w.1 w.2))]
    exact p.2 j (by omega) hjn
theorem to_square_er {L : List Int} (h1 : L.length ≠ 16) (h2 : L.length ≠ 64) : F_to_square L = .er 1 := by
  unfold F_to_square
  rw [if_neg]
  simp
  omega
theorem so_all {n : Nat} (hn : N48 n) {a b : Nat} (ha : a < n) (hb : b < n) : ∃ j, j < n * n ∧ ror n j = a ∧ cor n j = b := by
  have key : ∀ a < n, ∀ b < n, ((a : Int), (b : Int)) ∈ so n := by
    rcases hn with rfl | rfl
    · decide +kernel
    · decide +kernel
  obtain ⟨j, hj⟩ := List.getElem?_of_mem (key a ha b hb)
  have hl : j < n * n := by rw [← (so_facts hn).1]; exact get_len hj
  have e := (so_at hn hl).1
  rw [hj] at e
  injection e with e
  injection e with e1 e2
  exact ⟨j, hl, by omega, by omega⟩
theorem order_eq {n : Nat} (hn : N48 n) : F__law_order (n : Int) = .ok (so n) := by
  rcases hn with rfl | rfl
  · exact of_okIs (by decide +kernel)
  · exact of_okIs (by decide +kernel)
def lv (n : Nat) (M : List (List Int)) : List Int := (so n).map fun p => itD (itD M p.1) p.2
theorem lv_len {n : Nat} {M : List (List Int)} (hn : N48 n) : (lv n M).length = n * n := by rw [lv, List.length_map, (so_facts hn).1]
theorem so_row {n : Nat} {M : List (List Int)} (h : Sq n M) (hn : N48 n) {p : Int × Int} (hp : p ∈ so n) : (-(M.length : Int) ≤ p.1 ∧ p.1 < M.length) ∧ -((itD M p.1).length : Int) ≤ p.2 ∧ p.2 < (itD M p.1).length := by
  obtain ⟨h1, h2, h3, h4⟩ := (so_facts hn).2.1 p hp
  refine ⟨by rw [h.1]; omega, ?_⟩
  obtain ⟨j, e⟩ : ∃ j : Nat, p.1 = (j : Int) := ⟨p.1.toNat, by omega⟩
  rw [e, h.row (by omega)]
  omega
theorem levels_eq {n : Nat} {M : List (List Int)} (h : Sq n M) (hn : N48 n) : F_to_levels M = .ok (lv n M) := by
  have hnn := nn_le hn
  unfold F_to_levels
  rw [check_ok h hn, bind_ok, h.1, so_eq hn, bind_ok, mapA_pure0 (f := fun x => noEr (F_to_levels_c1 M x)) (g := fun p => itD (itD M p.1) p.2) (fun p hp => ?_) (by rw [(so_facts hn).1]; omega)]
  · rfl
  · obtain ⟨g1, g2⟩ := so_row h hn hp
    unfold F_to_levels_c1
    rw [grd_pos g1, grd_pos g2]
    rfl
theorem back_eq {n : Nat} {M : List (List Int)} (h : Sq n M) (hn : N48 n) : F_to_square (lv n M) = .ok M := by
  obtain ⟨B, e, hB, hat⟩ := (to_square_gv hn (lv_len (M := M) hn)).eq
  rw [e]
  congr 1
  refine sq_ext hB h fun a b ha hb => ?_
  obtain ⟨j, hj, rfl, rfl⟩ := so_all hn ha hb
  rw [hat j hj]
  unfold lv
  have hl : j < (so n).length := by rw [(so_facts hn).1]; exact hj
  rw [itD_map (by omega), itDn hl]
  have := (so_at hn hj).1
  rw [List.getElem?_eq_getElem hl] at this
  injection this with this
  rw [this]
  rfl
theorem scan_er {k : Int} (h4 : k ≠ 4) (h8 : k ≠ 8) : F_scan_order k = .er 1 := by
  unfold F_scan_order
  rw [size_er h4 h8]
  rfl
theorem refused_ok {k c : Int} {M : List (List Int)} (h4 : k ≠ 4) (h8 : k ≠ 8) (h0 : 0 ≤ c) (h1 : c < 80) (h16 : c ≠ 16) (h64 : c ≠ 64) (h : ¬ N48 M.length ∨ ∃ r ∈ M, r.length ≠ M.length) : F__law_refused k c M = .ok true := by
  have hl := repl_len (x := 0) h0
  have e1 : F_to_levels M = .er 1 := by unfold F_to_levels; rw [check_er h]; rfl
  unfold F__law_refused
  rw [scan_er h4 h8, tryR_er (by simp), bnd_eq, bind_ok]
  unfold F__law_refused_k1
  rw [grd_pos ⟨by omega, by omega, by show 1 * _ ≤ _; omega⟩, to_square_er (by omega) (by omega), tryR_er (by simp), bnd_eq, bind_ok]
  unfold F__law_refused_k2
  rw [e1, tryR_er (by simp)]
  rfl
theorem issq_ok {n : Nat} {M : List (List Int)} (h : Sq n M) : F__law_is_square M n = .ok true := by
  unfold F__law_is_square
  rw [if_pos (by rw [h.1]), forR_unit (fun x hx => ?_)]
  · rfl
  · unfold F__law_is_square_b1
    rw [if_pos (by rw [h.2 x hx]), forR_unit (fun y _ => rfl)]
    rfl
theorem ints_ok {v : List Int} {n : Int} (h : (v.length : Int) = n) : F__law_is_integers v n = .ok true := by
  unfold F__law_is_integers
  rw [if_pos h, forR_unit (fun x _ => rfl)]
  rfl
theorem k10_ok {n : Nat} {cell wrong count : Int} {rows bad : List (List Int)} (hc : 0 ≤ cell) (hn : N48 n) (h : Sq n rows) (hb : ¬ N48 bad.length ∨ ∃ r ∈ bad, r.length ≠ bad.length) (h0 : 0 ≤ wrong) (h1 : wrong < 12) (h4 : wrong ≠ 4) (h8 : wrong ≠ 8)
    (c0 : 0 ≤ count) (c1 : count < 80) (c16 : count ≠ 16) (c64 : count ≠ 64) : F_law_k10 cell n rows wrong count bad = .ok (.go ()) := by
  have hs := small48 hn
  have hp := hn.pos
  refine Gv.get ?_
  unfold F_law_k10
  have hk : 0 ≤ cell / 51 % n ∧ cell / 51 % n < n := ⟨Int.emod_nonneg _ (by omega), Int.emod_lt_of_pos _ (by omega)⟩
  refine Gv.grd ⟨by omega, by omega⟩ (Gv.bind_eq (mapA_pure0 (g := fun _ => repL [0] wrong) (fun x hx => ?_) (by rw [rng_len]; omega)) (Gv.bind_eq (refused_ok h4 h8 c0 c1 c16 c64 (.inl ?_)) (Gv.pos rfl (Gv.bind_eq (refused_ok (by decide) (by decide) (by decide) (by decide) (by decide) (by decide) hb) (Gv.pos rfl ?_)))))
  · unfold F_law_c11
    rw [grd_pos ⟨by omega, by omega, by show 1 * _ ≤ _; omega⟩]
    rfl
  · rw [List.length_map, rng_len]
    unfold N48
    omega
  refine Gv.bind_eq (mapA_pure0 (g := id) (fun x _ => rfl) (by rw [h.1]; omega)) ?_
  rw [List.map_id]
  refine Gv.grd ⟨by omega, by omega, by show 1 * _ ≤ _; omega⟩ (Gv.grd (by omega) (Gv.grd (by rw [h.1]; omega) (Gv.bnd fun o ho => Gv.bind_eq (refused_ok (by decide) (by decide) (by decide) (by decide) (by decide) (by decide) (.inr ⟨repL [0] (12 - n), ?_, ?_⟩)) (Gv.pos rfl (Gv.grd ⟨by omega, by omega⟩ ?_)))))
  · subst ho
    exact mem_setL (by rw [h.1]; omega)
  · subst ho
    rw [setL_len, h.1, repl_len (by omega)]
    unfold N48 at hn
    omega
  rw [Int.toNat_natCast]
  refine Gv.bind_eq (mapA_pure0 (g := fun _ => repL [0] (12 - n)) (fun x hx => ?_) (by rw [rng_len]; omega)) (Gv.bind_eq (refused_ok (by decide) (by decide) (by decide) (by decide) (by decide) (by decide) (.inr ⟨repL [0] (12 - n), ?_, ?_⟩)) (Gv.pos rfl (.ok rfl)))
  · unfold F_law_c13
    rw [grd_pos ⟨by omega, by omega, by show 1 * _ ≤ _; omega⟩]
    rfl
  · refine List.mem_map.mpr ⟨0, ?_, rfl⟩
    have := rng_get (lo := 0) hp
    exact List.mem_of_getElem? (by rw [this]; rfl)
  · rw [List.length_map, rng_len, repl_len (by omega)]
    unfold N48 at hn
    omega
theorem k8_ok {n : Nat} {cell wrong count : Int} {rows : List (List Int)} (hc : 0 ≤ cell) (hn : N48 n) (h : Sq n rows) (h0 : 0 ≤ wrong) (h1 : wrong < 12) (h4 : wrong ≠ 4) (h8 : wrong ≠ 8)
    (c0 : 0 ≤ count) (c1 : count < 80) (c16 : count ≠ 16) (c64 : count ≠ 64) : F_law_k8 cell n rows wrong count = .ok (.go ()) := by
  have hs := small48 hn
  have hp := hn.pos
  refine Gv.get ?_
  unfold F_law_k8
  have hk : 0 ≤ cell / 51 % n ∧ cell / 51 % n < n := ⟨Int.emod_nonneg _ (by omega), Int.emod_lt_of_pos _ (by omega)⟩
  refine Gv.bind_eq (mapA_pure0 (g := id) (fun x _ => rfl) (by rw [h.1]; omega)) ?_
  rw [List.map_id]
  refine Gv.bind (P := fun bad => ¬ N48 bad.length ∨ ∃ r ∈ bad, r.length ≠ bad.length) ?_ fun bad hbad => .of_eq (k10_ok hc hn h hbad h0 h1 h4 h8 c0 c1 c16 c64) rfl
  obtain ⟨j, hj⟩ : ∃ j : Nat, cell / 51 % n = (j : Int) := ⟨(cell / 51 % n).toNat, by omega⟩
  have hjn : j < n := by omega
  have hr := h.row hjn
  refine Gv.ite (fun _ => Gv.grd ⟨by omega, by omega, by show 1 * _ ≤ _; omega⟩ (Gv.grd (by rw [h.1]; omega) (Gv.bnd fun b hb2 => .ok (.inl ?_)))) fun _ => Gv.ite (fun _ => ?_) fun _ => ?_
  · subst hb2
    rw [List.length_append, h.1]
    unfold N48 at *
    show ¬ (n + 1 = 4 ∨ n + 1 = 8)
    omega
  · rw [hj]
    refine Gv.grd (by omega) (Gv.grd (by rw [h.1]; omega) (Gv.grd (by rw [hr]; omega) (Gv.bnd fun b hb2 => .ok (.inr ⟨itD rows (j : Int) ++ [0], ?_, ?_⟩))))
    · subst hb2
      exact mem_setL (by rw [h.1]; omega)
    · subst hb2
      rw [setL_len, h.1, List.length_append, hr]
      show n + 1 ≠ n
      omega
  · rw [hj]
    refine Gv.grd (by omega) (Gv.grd (by rw [h.1]; omega) (Gv.grd (by omega) (Gv.grd (by rw [h.1]; omega) (Gv.bnd fun b hb2 => .ok (.inr ⟨cutL (itD rows (j : Int)) (some 1) none, ?_, ?_⟩)))))
    · subst hb2
      exact mem_setL (by rw [h.1]; omega)
    · subst hb2
      rw [setL_len, h.1]
      have : (cutL (itD rows (j : Int)) (some 1) none).length = n - 1 := by
        unfold cutL
        rw [List.length_take, List.length_drop, hr]
        rcases hn with rfl | rfl <;> decide
      omega
def Bds (m : Int) (M : List (List Int)) : Prop := ∀ r ∈ M, ∀ x ∈ r, -m ≤ x ∧ x ≤ m
theorem show_sq {n : Nat} {M : List (List Int)} {m : Int} (h : Sq n M) (hn : N48 n) (hb : Bds m M) (hm : m ≤ 1000000000) : ShowOk (encL (encL PyData.int) M) := by
  have hs := small48 hn
  have key : Sm 73 2 (encL (encL PyData.int) M) := by
    refine sm_L (n := 9) (m := 8) (fun r hr => sm_ints (m := 8) (fun x hx => ?_) ?_) (by rw [h.1]; exact hs)
    · have := hb r hr x hx
      omega
    · rw [h.2 r hr]; exact hs
  exact key.show
theorem k2_ok {n : Nat} {cell : Int} {d : List Int} (hc : 0 ≤ cell) (hn : N48 n) (hd : d.length = n * n) (hdb : ∀ x ∈ d, -1000 ≤ x ∧ x ≤ 100000) : F_law_k2 cell n (so n) d = .ok (.go ()) := by
  have hs := small48 hn
  have hp := hn.pos
  have hnn := nn_le hn
  refine Gv.get ?_
  unfold F_law_k2
  refine Gv.grd ⟨by omega, by omega⟩ (Gv.bind (P := fun M => Sq n M ∧ Bds 1000000 M) ?_ fun M h => ?_)
  · rw [Int.toNat_natCast]
    refine Gv.of_eq (mapA_pure0 (g := fun j => (rng 0 n).map fun i => itD d (j * n + i) - 1000) (fun j hj => ?_) (by rw [rng_len]; omega)) ⟨⟨by rw [List.length_map, rng_len], fun r hr => ?_⟩, fun r hr x hx => ?_⟩
    · have hj := rng_mem hj
      refine Gv.get ?_
      unfold F_law_c4
      refine Gv.noEr (Gv.grd ⟨by omega, by omega⟩ ?_)
      rw [Int.toNat_natCast]
      refine Gv.bind_eq (mapA_pure0 (g := fun i => itD d (j * n + i) - 1000) (fun i hi => ?_) (by rw [rng_len]; omega)) (.ok rfl)
      have hi := rng_mem hi
      unfold F_law_c5
      have hix : 0 ≤ j * (n : Int) + i ∧ j * (n : Int) + i < d.length := by
        rw [hd]
        rcases hn with rfl | rfl <;> (constructor <;> omega)
      rw [grd_pos (.inr ⟨by omega, by omega⟩), grd_pos ⟨by omega, hix.2⟩]
      rfl
    · obtain ⟨j, _, rfl⟩ := List.mem_map.mp hr
      rw [List.length_map, rng_len]
    · obtain ⟨j, hj, rfl⟩ := List.mem_map.mp hr
      obtain ⟨i, hi, rfl⟩ := List.mem_map.mp hx
      have hj := rng_mem hj
      have hi := rng_mem hi
      have hix : 0 ≤ j * (n : Int) + i ∧ j * (n : Int) + i < d.length := by
        rw [hd]
        rcases hn with rfl | rfl <;> (constructor <;> omega)
      have := hdb _ (itD_mem (xs := d) (k := j * (n : Int) + i) ⟨by omega, hix.2⟩)
      omega
  have hcast : (n : Int) * n = ((n * n : Nat) : Int) := by rw [Int.natCast_mul]
  refine Gv.grd (show_sq h.1 hn h.2 (by decide)) (Gv.bind_eq (levels_eq h.1 hn) (Gv.grd (.inl ⟨by omega, by omega⟩) (Gv.bind_eq (ints_ok (by rw [lv_len hn, hcast])) (Gv.pos rfl (Gv.grd (show_sq h.1 hn h.2 (by decide)) (Gv.pos rfl ?_))))))
  refine Gv.bind_eq (a := lv n M) ?_ (Gv.pos rfl (Gv.bind_eq (back_eq h.1 hn) (Gv.bind_eq (issq_ok h.1) (Gv.pos rfl (Gv.pos rfl (Gv.pos rfl (Gv.bnd fun w hw => Gv.bnd fun c hcc => Gv.bind (P := fun w => 0 ≤ w ∧ w < 12 ∧ w ≠ 4 ∧ w ≠ 8) ?_ fun w2 h2 => ?_)))))))
  · rw [mapA_pure0 (f := fun x => noEr (F_law_c6 M x)) (g := fun p => itD (itD M p.1) p.2) (fun p hp => ?_) (by rw [(so_facts hn).1]; omega)]
    · rfl
    · obtain ⟨g1, g2⟩ := so_row h.1 hn hp
      unfold F_law_c6
      rw [grd_pos g1, grd_pos g2]
      rfl
  · exact Gv.ite (fun _ => .ok ⟨by decide, by decide, by decide, by decide⟩) fun c4 => Gv.ite (fun _ => .ok ⟨by decide, by decide, by decide, by decide⟩) fun c8 => .ok ⟨by omega, by omega, c4, c8⟩
  · unfold F_law_k7
    refine Gv.bind (P := fun c => 0 ≤ c ∧ c < 80 ∧ c ≠ 16 ∧ c ≠ 64) ?_ fun c2 h3 => .of_eq (k8_ok hc hn h.1 h2.1 h2.2.1 h2.2.2.1 h2.2.2.2 h3.1 h3.2.1 h3.2.2.1 h3.2.2.2) rfl
    exact Gv.ite (fun _ => .ok ⟨by decide, by decide, by decide, by decide⟩) fun c4 => Gv.ite (fun _ => .ok ⟨by decide, by decide, by decide, by decide⟩) fun c8 => .ok ⟨by omega, by omega, c4, c8⟩
theorem b1_ok (s : List Int) (k : Int) (hk : 0 ≤ k) : F_law_b1 s k = .ok (.go ()) := by
  refine Gv.get ?_
  unfold F_law_b1
  refine Gv.bind (cell_gv s k hk) fun c0 hc0 => Gv.bnd fun cell hcell => Gv.bnd fun size hsize => ?_
  obtain ⟨n, rfl⟩ : ∃ n : Nat, size = (n : Int) := ⟨size.toNat, by omega⟩
  have hn : N48 n := by unfold N48; omega
  have hs := small48 hn
  have hnn := nn_le hn
  have hcast : (n : Int) * n = ((n * n : Nat) : Int) := by rw [Int.natCast_mul]
  rw [hcast]
  refine Gv.bind_eq (order_eq hn) (Gv.bind_eq (so_eq hn) (Gv.pos rfl (Gv.grd (by rw [(so_facts hn).1]; omega) (Gv.bnd fun _ _ => Gv.bind_eq (so_eq hn) (Gv.pos rfl (Gv.grd (.inl ⟨by omega, by omega⟩) (Gv.bind (digits_gv _ _ _ (by decide) (by decide) (by omega) (by omega)) fun d hd => Gv.bind (P := fun d => d.length = n * n ∧ ∀ x ∈ d, -1000 ≤ x ∧ x ≤ 100000) ?_ fun d2 h2 => .of_eq (k2_ok (by omega) hn h2.1 h2.2) rfl)))))))
  refine Gv.ite (fun _ => Gv.grd (.inl ⟨by omega, by omega⟩) (Gv.grd ⟨by omega, by omega⟩ (Gv.bind_eq (mapA_pure0 (g := fun x => 7 * x - 100) (fun x _ => rfl) (by rw [rng_len]; omega)) (.ok ⟨by rw [List.length_map, rng_len]; omega, fun x hx => ?_⟩)))) fun _ => .ok ⟨by have := hd.1; omega, fun x hx => by have := hd.2 x hx; omega⟩
  obtain ⟨j, hj, rfl⟩ := List.mem_map.mp hx
  have := rng_mem hj
  omega
theorem law_true (xs : List Int) (h : xs.length ≤ 63) : F_law xs = .ok true := by
  unfold F_law
  rw [grd_pos (by split <;> omega), forR_unit (fun x hx => b1_ok xs x (rng_mem hx).1)]
  rfl

end Vx
namespace Vx
open PySem PySem.Spec PyProof.Rows L2
def topS (i : Nat) : Stmt := PySem.Challenge.pw_thaumatrope_k46_levels_in_scan_order.main.body.getD i (.Pass ⟨0, 0, 0, 0⟩)
abbrev s__law_order : Stmt := topS 17
abbrev s_check_size : Stmt := topS 5
abbrev s_scan_order : Stmt := topS 9
abbrev s__law_digits : Stmt := topS 14
abbrev s_check_square : Stmt := topS 6
abbrev s_to_levels : Stmt := topS 10
abbrev s_to_square : Stmt := topS 11
abbrev s__law_cell : Stmt := topS 13
abbrev s__law_is_integers : Stmt := topS 15
abbrev s__law_is_square : Stmt := topS 16
abbrev s__law_refused : Stmt := topS 18
abbrev s_law : Stmt := topS 19
structure Ads where
  x_CodecError : Addr
  x_OutOfRange : Addr
  t_SIZES : Addr
  t_SIZES_BY_COUNT : Addr
  z0 : Addr
def excA (AD : Ads) : Nat → Addr
  | 0 => AD.x_CodecError
  | 1 => AD.x_OutOfRange
  | _ => AD.z0
structure Txt (K : PySem.W.Frag) (mg : Str → Option Value) (AD : Ads) : Prop where
  b_range : mg "range" = none
  g_SIZES : ∃ u, mg "SIZES" = some u ∧ RelV (V.ref AD.t_SIZES) u
  ts_SIZES : ∀ H, SqT K H AD.t_SIZES (([4, 8] : List Int).map V.int)
  b_int : mg "int" = none
  b_len : mg "len" = none
  g_SIZES_BY_COUNT : ∃ u, mg "SIZES_BY_COUNT" = some u ∧ RelV (V.ref AD.t_SIZES_BY_COUNT) u
  kd_SIZES_BY_COUNT : KDI K AD.t_SIZES_BY_COUNT [(16, 4), (64, 8)]
  b_zip : mg "zip" = none
  b_abs : mg "abs" = none
  b_isinstance : mg "isinstance" = none
  b_list : mg "list" = none
  b_bool : mg "bool" = none
  b_repr : mg "repr" = none
  b_min : mg "min" = none
  xg_OutOfRange : mg "OutOfRange" = some (.ref AD.x_OutOfRange)
  xx_OutOfRange : PySem.W.excIn K AD.x_OutOfRange [.type "ValueError", .type "Exception", .type "BaseException", .type "object"] "ValueError.__new__" = true
  xk_OutOfRange : PySem.W.keepIn K (.ref AD.x_OutOfRange) = true
  xb_OutOfRange : PySem.W.subIn K (.ref AD.x_OutOfRange) (.type "BaseException") = some true
  xt_OutOfRange : PySem.W.typeIn K (.ref AD.x_OutOfRange) = some (.type "type")
  xm_OutOfRange_OutOfRange : PySem.W.exmOne K (.ref AD.x_OutOfRange) (.ref AD.x_OutOfRange) = some true
abbrev pat__law_order_0 : Pat := (1, [], fun vs _ => vs)
abbrev pats__law_order : List Pat := [pat__law_order_0]
abbrev pat_check_size_0 : Pat := (1, [], fun vs _ => vs)
abbrev pats_check_size : List Pat := [pat_check_size_0]
abbrev pat_scan_order_0 : Pat := (1, [], fun vs _ => vs)
abbrev pats_scan_order : List Pat := [pat_scan_order_0]
abbrev pat__law_digits_0 : Pat := (3, [], fun vs _ => vs)
abbrev pats__law_digits : List Pat := [pat__law_digits_0]
abbrev pat_check_square_0 : Pat := (1, [], fun vs _ => vs)
abbrev pats_check_square : List Pat := [pat_check_square_0]
abbrev pat_to_levels_0 : Pat := (1, [], fun vs _ => vs)
abbrev pats_to_levels : List Pat := [pat_to_levels_0]
abbrev pat_to_square_0 : Pat := (1, [], fun vs _ => vs)
abbrev pats_to_square : List Pat := [pat_to_square_0]
abbrev pat__law_cell_0 : Pat := (2, [], fun vs _ => vs)
abbrev pats__law_cell : List Pat := [pat__law_cell_0]
abbrev pat__law_is_integers_0 : Pat := (2, [], fun vs _ => vs)
abbrev pats__law_is_integers : List Pat := [pat__law_is_integers_0]
abbrev pat__law_is_square_0 : Pat := (2, [], fun vs _ => vs)
abbrev pats__law_is_square : List Pat := [pat__law_is_square_0]
abbrev pat__law_refused_0 : Pat := (3, [], fun vs _ => vs)
abbrev pats__law_refused : List Pat := [pat__law_refused_0]
abbrev pats_law : List Pat := []
def sp__law_order (K : PySem.W.Frag) (AD : Ads) : Sp := fun vs H Q E => ∃ (G : Hp) (size' : Int), vs = [.int size'] ∧ Same G H ∧ cW (F__law_order size') (fun v => ∀ u H' G', Same H H' → Same G G' → Same G' H' → (∀ b, H b ≠ none → G b = none → G' b = none) → Rp G' u ((encL (encT2 PyData.int PyData.int)) v) → Q u H') (fun e => ∀ H', Same H H' → E (.ref (excA AD e)) none H')
def sp_check_size (K : PySem.W.Frag) (AD : Ads) : Sp := fun vs H Q E => ∃ (G : Hp) (size' : Int), vs = [.int size'] ∧ Same G H ∧ cW (F_check_size size') (fun v => Q .non H) (fun e => E (.ref (excA AD e)) none H)
def sp_scan_order (K : PySem.W.Frag) (AD : Ads) : Sp := fun vs H Q E => ∃ (G : Hp) (size' : Int), vs = [.int size'] ∧ Same G H ∧ cW (F_scan_order size') (fun v => ∀ p vs H' G', H p = none → Same H H' → Same G G' → Same G' H' → (∀ b, H b ≠ none → G b = none → G' b = none) → G' p = none → H' p = some (.lst vs) → RpAll G' vs (v.map (encT2 PyData.int PyData.int)) → Q (.ref p) H') (fun e => ∀ H', Same H H' → E (.ref (excA AD e)) none H')
def sp__law_digits (K : PySem.W.Frag) (AD : Ads) : Sp := fun vs H Q E => ∃ (G : Hp) (cell' : Int) (base' : Int) (most' : Int), vs = [.int cell', .int base', .int most'] ∧ Same G H ∧ cW (F__law_digits cell' base' most') (fun v => ∀ p H', H p = none → Same H H' → H' p = some (.lst (v.map V.int)) → Q (.ref p) H') (fun e => ∀ H', Same H H' → E (.ref (excA AD e)) none H')
def sp_check_square (K : PySem.W.Frag) (AD : Ads) : Sp := fun vs H Q E => ∃ (G : Hp) (v_square : V) (square' : (List (List Int))), vs = [v_square] ∧ Same G H ∧ Rp (hideL [] H) v_square ((encL (encL PyData.int)) square') ∧ cW (F_check_square square') (fun v => ∀ H', Same H H' → Q .non H') (fun e => ∀ H', Same H H' → E (.ref (excA AD e)) none H')
def sp_to_levels (K : PySem.W.Frag) (AD : Ads) : Sp := fun vs H Q E => ∃ (G : Hp) (v_square : V) (square' : (List (List Int))), vs = [v_square] ∧ Same G H ∧ Rp (hideL [] H) v_square ((encL (encL PyData.int)) square') ∧ cW (F_to_levels square') (fun v => ∀ p H', H p = none → Same H H' → H' p = some (.lst (v.map V.int)) → Q (.ref p) H') (fun e => ∀ H', Same H H' → E (.ref (excA AD e)) none H')
def sp_to_square (K : PySem.W.Frag) (AD : Ads) : Sp := fun vs H Q E => ∃ (G : Hp) (a_levels : Addr) (levels' : List Int), vs = [.ref a_levels] ∧ Same G H ∧ (hideL [] H) a_levels = some (.lst ((levels' : List Int).map V.int)) ∧ cW (F_to_square levels') (fun v => ∀ (H' : Hp) (a : Addr) (vs : List V) (L : List Addr) (G' : Hp), H a = none → (∀ b ∈ L, H b = none) → (∀ b ∈ L, b ≠ a) → Same H H' → Same G G' → Same G' H' → (∀ b, H b ≠ none → G b = none → G' b = none) → G' a = none → (∀ b ∈ L, G' b = none) → H' a = some (.lst vs) → OwAll G' H' L vs ((v : (List (List Int))).map (oL oI)) → Q (.ref a) H') (fun e => ∀ H', Same H H' → E (.ref (excA AD e)) none H')
def sp__law_cell (K : PySem.W.Frag) (AD : Ads) : Sp := fun vs H Q E => ∃ (G : Hp) (a_script : Addr) (script' : List Int) (k' : Int), vs = [.ref a_script, .int k'] ∧ Same G H ∧ SqL K H a_script ((script' : List Int).map V.int) ∧ cW (F__law_cell script' k') (fun v => Q (.int v) H) (fun e => E (.ref (excA AD e)) none H)
def sp__law_is_integers (K : PySem.W.Frag) (AD : Ads) : Sp := fun vs H Q E => ∃ (G : Hp) (a_actual : Addr) (actual' : List Int) (count' : Int), vs = [.ref a_actual, .int count'] ∧ Same G H ∧ (hideL [] H) a_actual = some (.lst ((actual' : List Int).map V.int)) ∧ cW (F__law_is_integers actual' count') (fun v => ∀ H', Same H H' → Q (.bl v) H') (fun e => ∀ H', Same H H' → E (.ref (excA AD e)) none H')
def sp__law_is_square (K : PySem.W.Frag) (AD : Ads) : Sp := fun vs H Q E => ∃ (G : Hp) (v_actual : V) (actual' : (List (List Int))) (size' : Int), vs = [v_actual, .int size'] ∧ Same G H ∧ Rp (hideL [] H) v_actual ((encL (encL PyData.int)) actual') ∧ cW (F__law_is_square actual' size') (fun v => ∀ H', Same H H' → Q (.bl v) H') (fun e => ∀ H', Same H H' → E (.ref (excA AD e)) none H')
def sp__law_refused (K : PySem.W.Frag) (AD : Ads) : Sp := fun vs H Q E => ∃ (G : Hp) (size' : Int) (count' : Int) (v_rows : V) (rows' : (List (List Int))), vs = [.int size', .int count', v_rows] ∧ Same G H ∧ Rp (hideL [] H) v_rows ((encL (encL PyData.int)) rows') ∧ cW (F__law_refused size' count' rows') (fun v => ∀ H', Same H H' → Q (.bl v) H') (fun e => ∀ H', Same H H' → E (.ref (excA AD e)) none H')
def sp_law (K : PySem.W.Frag) (AD : Ads) : Sp := fun vs H Q E => ∃ (a_script : Addr) (script : List Int), vs = [.ref a_script] ∧ SqL K H a_script (script.map V.int) ∧ cW (F_law script) (fun v => v = true) (fun _ => False) ∧ ∀ H', Q (.bl true) H'
section
variable {P : Program} {w : World} {K : PySem.W.Frag} {mg : Str → Option Value} {base : Heap} {AD : Ads}
abbrev N__law_order : List Str := ["size", "places", "total", "step", "row"]
theorem sc__law_order : FnScope N__law_order ["size"] (defScope s__law_order) := ⟨rfl, rfl, rfl, by decide +kernel, rfl, by decide +kernel, by decide +kernel⟩
theorem ok__law_order (D : DefX K mg "_law_order" s__law_order ["size"] pats__law_order) (T : Txt K mg AD)  : CalX P w K mg base 1 "_law_order" (sp__law_order K AD) pats__law_order := by
  refine D.ok sc__law_order (fun vs H Q E h => ?_) (fun f cdv A_ outer s H vs Q E hr h => ?_)
  · obtain ⟨G, size', rfl, _⟩ := h
    rfl
  · obtain ⟨G, size', rfl, sG, hw⟩ := h
    refine ⟨_, (pss_cons (ps_set (i := 1) sc__law_order.nd rfl (Or.inl rfl) (pe_lst pa_nil))
      (pss_cons (ps_for (passes_of rfl) rfl (pi_range1 rfl T.b_range (pa_cons (pe_op op_sub (pe_op op_mul pe_int (pv 0)) pe_int) pa_nil)) (pg_name (i := 2) sc__law_order.nd rfl (Or.inl rfl)) (pss_one (ps_for (passes_of rfl) rfl (pi_range1 rfl T.b_range (pa_cons (pe_op op_add (pv 2) pe_int) pa_nil)) (pg_name (i := 3) sc__law_order.nd rfl (Or.inl rfl)) (pss_cons (ps_set (i := 4) sc__law_order.nd rfl (Or.inl rfl) (pv 3))
      (C8.pss_cut (ps_if (pt_cmp (pc_eqI (pe_op op_mod (pv 2) pe_int) pe_int)) (pss_one (ps_set (i := 4) sc__law_order.nd rfl (Or.inl rfl) (pe_op op_sub (pv 2) (pv 3)))) pss_nil)
      (pss_one (ps_if (PW.pt (pw_and (pt_cmp (pc_lt (pv 4) (pv 0))) (pw_and1 (pt_cmp (pc_lt (pe_op op_sub (pv 2) (pv 4)) (pv 0)))))) (pss_one (ps_expr (pe_bm PySem.F.plainAttrs_list PySem.F.slot_list_append PySem.F.type_list_append mt_append (pv 1) (pa_cons (pe_tup (pa_cons (pv 4) (pa_cons (pe_op op_sub (pv 2) (pv 4)) pa_nil))) pa_nil)))) pss_nil)))))))
      (pss_one (ps_ret (pv 1))))), ?_⟩
    obtain ⟨KK, EE, hK0, hE, hw⟩ := cW_gen hw
    have S0 := Sep.startG sG
    unfold F__law_order at hw
    refine ⟨(by show 0 ≤ sizeLine; decide), fun p1 n2 => ?_⟩
    generalize g3 : upd H p1 _ = H4
    obtain ⟨e5, h6⟩ := gen_new n2 g3
    have h7 : H4 p1 = some (.lst ([])) := h6
    have fr8 := S0.free n2
    have S9 := S0.new n2 e5 h7 fr8
    have d10 : RpAll G ([]) ((([] : (List (Int × Int))) : (List (Int × Int))).map (encT2 PyData.int PyData.int)) := RpAll.nil
    obtain ⟨g11, hw⟩ := cW_grd hw
    obtain ⟨K13, hK14, hw⟩ := cW_push hw
    refine ⟨_, rfl, _, _, rfl, rfl, (.inl ⟨by decide, by decide⟩), _, _, rfl, rfl, _, rfl, g11.1, g11.2, for_range (lo := 0) (n := Int.toNat (((2 * size') - 1))) (fun i σ H' => ∃ (places_15 : (List (Int × Int))) (vs16 : List V) (u17 : Option V) (u18 : Option V) (u19 : Option V) (G' : Hp), σ = [some (V.int (size')), some (V.ref p1), u17, u18, u19] ∧ Same G G' ∧ Sep [] H G G' H' [p1] ∧ H' p1 = some (.lst (vs16)) ∧ RpAll G' (vs16) ((places_15 : (List (Int × Int))).map (encT2 PyData.int PyData.int)) ∧ cW (forS (List.drop i (rng (0) (Int.toNat (((2 * size') - 1))))) places_15 (fun s x => F__law_order_b1 (size') s x)) K13 EE) ?_ ?_ ?_⟩
    · exact ⟨(([] : (List (Int × Int)))), _, _, _, _, _, rfl, (Same.refl _), S9, h7, d10, hw⟩
    · intro i σ H20 hi hw
      obtain ⟨places_15, vs16, u17, u18, u19, G24, rfl, eG25, S21, h22, d23, hw⟩ := hw
      have hw := cW_forS (rng_get hi) hw
      generalize (0 + (i : Int)) = x26 at hw ⊢
      have hw : cW (F__law_order_b1 (size') (places_15) (x26)) _ EE := hw
      unfold F__law_order_b1 at hw
      obtain ⟨K28, hK29, hw⟩ := cW_name hw
      obtain ⟨g31, hw⟩ := cW_grd hw
      obtain ⟨K34, hK35, hw⟩ := cW_push hw
      refine ⟨_, rfl, _, _, rfl, rfl, _, rfl, g31.1, g31.2, for_range (lo := 0) (n := Int.toNat ((x26 + 1))) (fun i σ H' => ∃ (places_36 : (List (Int × Int))) (vs37 : List V) (u38 : Option V) (u39 : Option V) (G' : Hp), σ = [some (V.int (size')), some (V.ref p1), some (V.int (x26)), u38, u39] ∧ Same G24 G' ∧ Sep [] H G G' H' [p1] ∧ H' p1 = some (.lst (vs37)) ∧ RpAll G' (vs37) ((places_36 : (List (Int × Int))).map (encT2 PyData.int PyData.int)) ∧ cW (forS (List.drop i (rng (0) (Int.toNat ((x26 + 1))))) places_36 (fun s x => F__law_order_b2 (size') (x26) s x)) K34 EE) ?_ ?_ ?_⟩
      · exact ⟨(places_15), _, _, _, _, rfl, (Same.refl _), S21, h22, d23, hw⟩
      · intro i σ H40 hi hw
        obtain ⟨places_36, vs37, u38, u39, G44, rfl, eG45, S41, h42, d43, hw⟩ := hw
        have hw := cW_forS (rng_get hi) hw
        generalize (0 + (i : Int)) = x46 at hw ⊢
        have hw : cW (F__law_order_b2 (size') (x26) (places_36) (x46)) _ EE := hw
        unfold F__law_order_b2 at hw
        obtain ⟨K48, hK49, hw⟩ := cW_name hw
        refine ⟨_, rfl, ⟨fun σ H' => ∃ (row_55 : Int) (G' : Hp), σ = [some (V.int (size')), some (V.ref p1), some (V.int (x26)), some (V.int (x46)), some (V.int row_55)] ∧ Same G44 G' ∧ Sep [] H G G' H' [p1] ∧ H' p1 = some (.lst (vs37)) ∧ cW (F__law_order_k3 (size') (places_36) (x26) row_55) K48 EE, ?_, ?_⟩⟩
        · obtain ⟨K56, hK57, hw⟩ := cW_push hw
          refine ⟨_, rfl, _, _, rfl, rfl, (show (0 : Int) < 2 by decide), _, _, rfl, rfl, _, rfl, ?_⟩
          refine iteD (fun c58 => ?_) (fun c58 => ?_)
          · have hw := cW_pos c58 hw
            refine ⟨_, rfl, _, rfl, _, _, rfl, rfl, ?_⟩
            have hw := cW_bnd hw
            have hw := cW_ok hw
            have hw := hK57 _ hw
            exact ⟨((x26 - x46)), _, rfl, (Same.refl _), S41, h42, hw⟩
          · have hw := cW_neg c58 hw
            have hw := cW_ok hw
            have hw := hK57 _ hw
            exact ⟨(x46), _, rfl, (Same.refl _), S41, h42, hw⟩
        · intro σ H60 hw
          obtain ⟨row_55, G63, rfl, eG64, S61, h62, hw⟩ := hw
          unfold F__law_order_k3 at hw
          refine ⟨_, rfl, _, rfl, _, _, rfl, rfl, _, rfl, ?_⟩
          refine iteD (fun c65 => ?_) (fun c65 => ?_)
          · have hw := cW_pos c65 hw
            refine ⟨_, rfl, _, rfl, _, _, rfl, rfl, _, rfl, _, _, rfl, rfl, _, rfl, ?_⟩
            refine iteD (fun c66 => ?_) (fun c66 => ?_)
            · have hw := cW_pos c66 hw
              refine ⟨_, rfl, (.inl ⟨rfl, _, SqL.of h62⟩), _, rfl, _, rfl, _, rfl, _, _, rfl, rfl, (by show 2 ≤ sizeLine; decide), fun p67 n68 => ?_⟩
              generalize g69 : upd H60 p67 _ = H70
              obtain ⟨e71, h72⟩ := gen_new n68 g69
              have h73 : H70 p67 = some (.tup [V.int (row_55), V.int ((x26 - row_55))]) := h72
              have fr74 := S61.free n68
              obtain ⟨G76, eG77, hg78, S75⟩ := S61.grow n68 e71 h73 fr74
              obtain ⟨g79, hw⟩ := cW_grd hw
              have h80 := (e71 _ _ h62)
              refine ⟨_, _, _, rfl, rfl, h80, (app_len (RpAll.mono eG77 (RpAll.mono eG64 d43)) g79), ?_⟩
              generalize g81 : upd H70 p1 _ = H82
              obtain ⟨x83, h84⟩ := gen_mut g81
              have h85 : H82 p1 = some (.lst (vs37 ++ [V.ref p67])) := h84
              have S86 := S75.mut1 x83 (.head _) h85
              have d87 : RpAll G76 (vs37 ++ [V.ref p67]) (((places_36) ++ [(row_55, (x26 - row_55))] : (List (Int × Int))).map (encT2 PyData.int PyData.int)) := app_map (RpAll.mono eG77 (RpAll.mono eG64 d43)) (RpAll.one (rp_mk2 hg78 (.int _) (.int _)))
              have hw := cW_bnd hw
              have hw := cW_ok hw
              have hw := hK49 _ hw
              exact ⟨((places_36) ++ [(row_55, (x26 - row_55))]), _, _, _, _, rfl, (Same.trans (Same.trans eG45 eG64) eG77), S86, h85, d87, hw⟩
            · have hw := cW_neg c66 hw
              have hw := cW_ok hw
              have hw := hK49 _ hw
              exact ⟨(places_36), _, _, _, _, rfl, (Same.trans eG45 eG64), S61, h62, (RpAll.mono eG64 d43), hw⟩
          · have hw := cW_neg c65 hw
            refine iteF ?_
            have hw := cW_ok hw
            have hw := hK49 _ hw
            exact ⟨(places_36), _, _, _, _, rfl, (Same.trans eG45 eG64), S61, h62, (RpAll.mono eG64 d43), hw⟩
      · intro σ H89 hw
        obtain ⟨places_36, vs37, u38, u39, G93, rfl, eG94, S90, h91, d92, hw⟩ := hw
        have hw := hK35 _ (cW_forS0 (rng_len _ _).symm hw)
        have hw : cW (F__law_order_r2  (places_36)) _ EE := hw
        unfold F__law_order_r2 at hw
        have hw := cW_ok hw
        have hw := hK29 _ hw
        exact ⟨(places_36), _, _, _, _, _, rfl, (Same.trans eG25 eG94), S90, h91, d92, hw⟩
    · intro σ H96 hw
      obtain ⟨places_15, vs16, u17, u18, u19, G100, rfl, eG101, S97, h98, d99, hw⟩ := hw
      have hw := hK14 _ (cW_forS0 (rng_len _ _).symm hw)
      have hw : cW (F__law_order_r1  (places_15)) _ EE := hw
      unfold F__law_order_r1 at hw
      refine ⟨_, rfl, ?_⟩
      obtain ⟨G103, eG104, hg105, S106⟩ := Sep.freeze (O' := []) S97 (.head _) h98 fr8 (all_nil)
      have hw := cW_ok hw
      exact hK0 _ hw _ _ _ S106.b0 S106.g0 S106.sG S106.gn (rp_mk_list hg105 (RpAll.mono eG104 d99))

abbrev N_check_size : List Str := ["size"]
theorem sc_check_size : FnScope N_check_size ["size"] (defScope s_check_size) := ⟨rfl, rfl, rfl, by decide +kernel, rfl, by decide +kernel, by decide +kernel⟩
theorem ok_check_size (D : DefX K mg "check_size" s_check_size ["size"] pats_check_size) (T : Txt K mg AD)  : CalX P w K mg base 1 "check_size" (sp_check_size K AD) pats_check_size := by
  refine D.ok sc_check_size (fun vs H Q E h => ?_) (fun f cdv A_ outer s H vs Q E hr h => ?_)
  · obtain ⟨G, size', rfl, _⟩ := h
    rfl
  · obtain ⟨G, size', rfl, sG, hw⟩ := h
    refine ⟨_, (pss_one (ps_if (pt_cmpR (op_notInI (K := K)) (pv 0) (C8.pe_gc (v := V.ref AD.t_SIZES) rfl T.g_SIZES) (by with_unfolding_all rfl)) (pss_one (ps_raise rfl (takes_of rfl rfl rfl rfl) (pmk_own PySem.F.excBase_ValueError T.xx_OutOfRange T.xg_OutOfRange T.xk_OutOfRange (raises_own T.xb_OutOfRange T.xt_OutOfRange) rfl))) pss_nil)), ?_⟩
    obtain ⟨KK, EE, hK0, hE, hw⟩ := cW_gen hw
    have S0 := Sep.startG sG
    unfold F_check_size at hw
    refine ⟨_, rfl, _, _, ([4, 8] : List Int), rfl, rfl, (.inr (T.ts_SIZES _)), _, rfl, ?_⟩
    refine iteN (fun c107 => ?_) (fun c107 => ?_)
    · have hw := cW_neg c107 hw
      exact hE 1 (cW_er hw)
    · have hw := cW_pos c107 hw
      have hw := cW_ok hw
      exact hK0 _ hw

abbrev N_scan_order : List Str := ["size", "order", "total", "diagonal", "row"]
theorem sc_scan_order : FnScope N_scan_order ["size"] (defScope s_scan_order) := ⟨rfl, rfl, rfl, by decide +kernel, rfl, by decide +kernel, by decide +kernel⟩
theorem ok_scan_order (D : DefX K mg "scan_order" s_scan_order ["size"] pats_scan_order) (T : Txt K mg AD) (c_check_size : CalX P w K mg base 1 "check_size" (sp_check_size K AD) pats_check_size) : CalX P w K mg base 2 "scan_order" (sp_scan_order K AD) pats_scan_order := by
  refine D.ok sc_scan_order (fun vs H Q E h => ?_) (fun f cdv A_ outer s H vs Q E hr h => ?_)
  · obtain ⟨G, size', rfl, _⟩ := h
    rfl
  · obtain ⟨G, size', rfl, sG, hw⟩ := h
    refine ⟨_, (pss_cons (ps_expr (vx_callX c_check_size pat_check_size_0 (.head _) hr (by decide) (takes_of rfl rfl rfl rfl) rfl (pa_cons (pv 0) pa_nil) pk_nil))
      (pss_cons (ps_set (i := 1) sc_scan_order.nd rfl (Or.inl rfl) (pe_lst pa_nil))
      (pss_cons (ps_for (passes_of rfl) rfl (pi_range1 rfl T.b_range (pa_cons (pe_op op_sub (pe_op op_mul pe_int (pv 0)) pe_int) pa_nil)) (pg_name (i := 2) sc_scan_order.nd rfl (Or.inr rfl)) (pss_cons (ps_setLc (i := 3) (y := "diagonal") rfl sc_scan_order.nd rfl rfl (sw_true rfl rfl rfl (by decide +kernel)) (own := [("row", 4)]) (g := gName 4) (pi_range1 rfl T.b_range (pa_cons (pv 0) pa_nil)) (blkOk_by (own := [("row", 4)]) (N := N_scan_order) (sc := defScope s_scan_order) (by decide +kernel)) (fun _ _ _ _ _ => (pg_name (i := 4) sc_scan_order.nd rfl (Or.inl rfl))) (fun _ _ _ _ _ => pts_one (pt_chain op_le op_lt pe_int (pe_op op_sub (pv 2) (pv 4)) (pv 0))) (fun _ _ _ _ _ => (pe_tup (pa_cons (pv 4) (pa_cons (pe_op op_sub (pv 2) (pv 4)) pa_nil)))))
      (C8.pss_cut (ps_if (pt_cmp (pc_eqI (pe_op op_mod (pv 2) pe_int) pe_int)) (pss_one (ps_expr (pe_bm0 PySem.F.plainAttrs_list PySem.F.slot_list_reverse PySem.F.type_list_reverse mt_reverse (pv 3)))) pss_nil)
      (pss_one (ps_expr (pe_bm PySem.F.plainAttrs_list PySem.F.slot_list_extend PySem.F.type_list_extend mt_extend (pv 1) (pa_cons (pv 3) pa_nil)))))))
      (pss_one (ps_ret (pv 1)))))), ?_⟩
    obtain ⟨KK, EE, hK0, hE, hw⟩ := cW_gen hw
    have S0 := Sep.startG sG
    unfold F_scan_order at hw
    refine ⟨_, rfl, rfl, rfl, G, _, rfl, S0.sG, cW_call hw (fun v108 hw => ?_) (fun e he => hE e he _ S0.b0)⟩
    refine ⟨(by show 0 ≤ sizeLine; decide), fun p109 n110 => ?_⟩
    generalize g111 : upd H p109 _ = H112
    obtain ⟨e113, h114⟩ := gen_new n110 g111
    have h115 : H112 p109 = some (.lst ([])) := h114
    have fr116 := S0.free n110
    have S117 := S0.new n110 e113 h115 fr116
    have d118 : RpAll G ([]) ((([] : (List (Int × Int))) : (List (Int × Int))).map (encT2 PyData.int PyData.int)) := RpAll.nil
    obtain ⟨g119, hw⟩ := cW_grd hw
    obtain ⟨K121, hK122, hw⟩ := cW_push hw
    refine ⟨_, rfl, _, _, rfl, rfl, (.inl ⟨by decide, by decide⟩), _, _, rfl, rfl, _, rfl, g119.1, g119.2, for_range (lo := 0) (n := Int.toNat (((2 * size') - 1))) (fun i σ H' => ∃ (order_123 : (List (Int × Int))) (vs124 : List V) (u125 : Option V) (u126 : Option V) (G' : Hp), σ = [some (V.int (size')), some (V.ref p109), u125, u126, none] ∧ Same G G' ∧ Sep [] H G G' H' [p109] ∧ H' p109 = some (.lst (vs124)) ∧ RpAll G' (vs124) ((order_123 : (List (Int × Int))).map (encT2 PyData.int PyData.int)) ∧ cW (forS (List.drop i (rng (0) (Int.toNat (((2 * size') - 1))))) order_123 (fun s x => F_scan_order_b1 (size') s x)) K121 EE) ?_ ?_ ?_⟩
    · exact ⟨(([] : (List (Int × Int)))), _, _, _, _, rfl, (Same.refl _), S117, h115, d118, hw⟩
    · intro i σ H127 hi hw
      obtain ⟨order_123, vs124, u125, u126, G131, rfl, eG132, S128, h129, d130, hw⟩ := hw
      have hw := cW_forS (rng_get hi) hw
      generalize (0 + (i : Int)) = x133 at hw ⊢
      have hw : cW (F_scan_order_b1 (size') (order_123) (x133)) _ EE := hw
      unfold F_scan_order_b1 at hw
      obtain ⟨K135, hK136, hw⟩ := cW_name hw
      obtain ⟨g138, hw⟩ := cW_grd hw
      obtain ⟨K142, hK143, hw⟩ := cW_push hw
      refine ⟨_, rfl, _, rfl, g138.1, g138.2, fun D144 n145 => lc_range (lo := 0) (n := Int.toNat (size')) (fun i H' => ∃ (G' : Hp) (acc147 : (List (Int × Int))) (vs148 : List V), Same G131 G' ∧ Sep [] H G G' H' [D144, p109] ∧ H' p109 = some (.lst (vs124)) ∧ H' D144 = some (.lst vs148) ∧ RpAll G' vs148 ((acc147 : (List (Int × Int))).map (encT2 PyData.int PyData.int)) ∧ Same H127 H' ∧ cW (mapF (List.drop i (rng (0) (Int.toNat (size')))) acc147 (fun x => noEr (F_scan_order_c2 (size') (x133) x))) K142 EE) ?_ ?_ ?_⟩
      · generalize g149 : upd H127 D144 _ = H150
        obtain ⟨e151, h152⟩ := gen_new n145 g149
        have fr153 := S128.free n145
        have S154 := S128.new n145 e151 h152 fr153
        have h155 := (e151 _ _ h129)
        exact ⟨_, [], [], Same.refl _, S154, h155, h152, RpAll.nil, e151, hw⟩
      · intro i H156 hi hw
        obtain ⟨G159, acc161, vs162, eG160, S157, h168, h158, d163, eo167, hw⟩ := hw
        obtain ⟨z169, hw⟩ := cW_mapF (rng_get hi) hw
        generalize (0 + (i : Int)) = x170 at hw ⊢
        have hw := cW_noEr hw
        have hw : cW (F_scan_order_c2 (size') (x133) (x170)) _ (fun _ => False) := hw
        unfold F_scan_order_c2 at hw
        refine ⟨rfl, ?_⟩
        refine ⟨_, rfl, _, rfl, _, _, rfl, rfl, _, _, rfl, rfl, _, rfl, ?_⟩
        refine iteD (fun c172 => ?_) (fun c172 => ?_)
        · have hw := cW_pos c172 hw
          refine ⟨_, rfl, _, _, rfl, rfl, _, rfl, ?_⟩
          refine iteD (fun c173 => ?_) (fun c173 => ?_)
          · have hw := cW_pos c173 hw
            refine ⟨_, rfl, _, rfl, _, rfl, _, _, rfl, rfl, (by show 2 ≤ sizeLine; decide), fun p174 n175 => ?_⟩
            generalize g176 : upd H156 p174 _ = H177
            obtain ⟨e178, h179⟩ := gen_new n175 g176
            have h180 : H177 p174 = some (.tup [V.int (x170), V.int ((x133 - x170))]) := h179
            have fr181 := S157.free n175
            obtain ⟨G183, eG184, hg185, S182⟩ := S157.grow n175 e178 h180 fr181
            have h186 := (e178 _ _ h158)
            refine ⟨_, h186, (app_len (RpAll.mono eG184 d163) z169), ?_⟩
            generalize g187 : upd H177 D144 _ = H188
            obtain ⟨x189, h190⟩ := gen_mut g187
            have S191 := S182.mut1 x189 (.head _) h190
            have hw := cW_ok hw
            have h192 := (x189 _ _ (e178 _ _ h168) (ne_of_none h129 n145))
            exact ⟨_, (acc161 ++ [(x170, (x133 - x170))]), _, (Same.trans eG160 eG184), S191, h192, h190, (app_map (RpAll.mono eG184 d163) (RpAll.one (rp_mk2 hg185 (.int _) (.int _)))), (same_mut (Same.trans eo167 e178) x189 n145), hw⟩
          · have hw := cW_neg c173 hw
            have hw := cW_ok hw
            exact ⟨_, acc161, _, eG160, S157, h168, h158, d163, eo167, hw⟩
        · have hw := cW_neg c172 hw
          refine ⟨_, rfl, ?_⟩
          refine iteF ?_
          have hw := cW_ok hw
          exact ⟨_, acc161, _, eG160, S157, h168, h158, d163, eo167, hw⟩
      intro H193 hw
      obtain ⟨G196, acc198, vs199, eG197, S194, h205, h195, d200, eo204, hw⟩ := hw
      have hw := hK143 _ (cW_mapF0 (rng_len _ _).symm hw)
      have fr206 := S128.free n145
      refine ⟨fun σ H' => ∃ (diagonal_209 : (List (Int × Int))) (vs210 : List V) (G' : Hp), σ = [some (V.int (size')), some (V.ref p109), some (V.int (x133)), some (V.ref D144), none] ∧ Same G196 G' ∧ Sep [] H G G' H' [p109, D144] ∧ H' p109 = some (.lst (vs124)) ∧ H' D144 = some (.lst (vs210)) ∧ RpAll G' (vs210) ((diagonal_209 : (List (Int × Int))).map (encT2 PyData.int PyData.int)) ∧ cW (F_scan_order_k3 (order_123) diagonal_209) K135 EE, ?_, ?_⟩
      · obtain ⟨K211, hK212, hw⟩ := cW_push hw
        refine ⟨_, rfl, _, _, rfl, rfl, (show (0 : Int) < 2 by decide), _, _, rfl, rfl, _, rfl, ?_⟩
        refine iteD (fun c213 => ?_) (fun c213 => ?_)
        · have hw := cW_pos c213 hw
          refine ⟨_, rfl, (.inl ⟨rfl, _, SqL.of h195⟩), _, _, rfl, rfl, h195, ?_⟩
          generalize g214 : upd H193 D144 _ = H215
          obtain ⟨x216, h217⟩ := gen_mut g214
          have h218 : H215 D144 = some (.lst ((vs199).reverse)) := h217
          have S219 := S194.mut1 x216 (.head _) h218
          have d220 : RpAll G196 ((vs199).reverse) (((acc198).reverse : (List (Int × Int))).map (encT2 PyData.int PyData.int)) := rev_all d200
          have hw := cW_bnd hw
          have hw := cW_ok hw
          have hw := hK212 _ hw
          have h222 := (x216 _ _ h205 (ne_of_none h129 n145))
          exact ⟨((acc198).reverse), _, _, rfl, (Same.refl _), (S219.sub (all_cons (.tail _ (.head _)) (all_cons (.head _) all_nil))), h222, h218, d220, hw⟩
        · have hw := cW_neg c213 hw
          have hw := cW_ok hw
          have hw := hK212 _ hw
          exact ⟨(acc198), _, _, rfl, (Same.refl _), (S194.sub (all_cons (.tail _ (.head _)) (all_cons (.head _) all_nil))), h205, h195, d200, hw⟩
      · intro σ H223 hw
        obtain ⟨diagonal_209, vs210, G228, rfl, eG229, S224, h225, h226, d227, hw⟩ := hw
        unfold F_scan_order_k3 at hw
        obtain ⟨g230, hw⟩ := cW_grd hw
        refine ⟨_, rfl, (.inl ⟨rfl, _, SqL.of h225⟩), _, rfl, ?_⟩
        obtain ⟨G231, eG232, hg233, S234⟩ := Sep.freeze (O' := [p109]) S224 (.tail _ (.head _)) h226 fr206 ((all_cons ⟨(.head _), (ne_of_none h129 n145)⟩ all_nil))
        refine ⟨_, _, _, _, rfl, rfl, h225, (S234.sG _ _ hg233), (cat_len (RpAll.mono eG232 (RpAll.mono eG229 (RpAll.mono eG197 d130))) (RpAll.mono eG232 d227) g230), ?_⟩
        generalize g235 : upd H223 p109 _ = H236
        obtain ⟨x237, h238⟩ := gen_mut g235
        have h239 : H236 p109 = some (.lst (vs124 ++ vs210)) := h238
        have S240 := S234.mut1 x237 (.head _) h239
        have d241 : RpAll G231 (vs124 ++ vs210) (((order_123) ++ (diagonal_209) : (List (Int × Int))).map (encT2 PyData.int PyData.int)) := app_map (RpAll.mono eG232 (RpAll.mono eG229 (RpAll.mono eG197 d130))) (RpAll.mono eG232 d227)
        have hw := cW_bnd hw
        have hw := cW_ok hw
        have hw := hK136 _ hw
        exact ⟨((order_123) ++ (diagonal_209)), _, _, _, _, rfl, (Same.trans (Same.trans (Same.trans eG132 eG197) eG229) eG232), S240, h239, d241, hw⟩
    · intro σ H243 hw
      obtain ⟨order_123, vs124, u125, u126, G247, rfl, eG248, S244, h245, d246, hw⟩ := hw
      have hw := hK122 _ (cW_forS0 (rng_len _ _).symm hw)
      have hw : cW (F_scan_order_r1  (order_123)) _ EE := hw
      unfold F_scan_order_r1 at hw
      refine ⟨_, rfl, ?_⟩
      have hw := cW_ok hw
      exact hK0 _ hw _ _ _ _ fr116 S244.b0 S244.g0 S244.sG S244.gn (S244.ow _ (.head _)).1 h245 d246

abbrev N__law_digits : List Str := ["cell", "base", "most", "digits", "large", "k"]
theorem sc__law_digits : FnScope N__law_digits ["cell", "base", "most"] (defScope s__law_digits) := ⟨rfl, rfl, rfl, by decide +kernel, rfl, by decide +kernel, by decide +kernel⟩
theorem ok__law_digits (D : DefX K mg "_law_digits" s__law_digits ["cell", "base", "most"] pats__law_digits) (T : Txt K mg AD)  : CalX P w K mg base 1 "_law_digits" (sp__law_digits K AD) pats__law_digits := by
  refine D.ok sc__law_digits (fun vs H Q E h => ?_) (fun f cdv A_ outer s H vs Q E hr h => ?_)
  · obtain ⟨G, cell', base', most', rfl, _⟩ := h
    rfl
  · obtain ⟨G, cell', base', most', rfl, sG, hw⟩ := h
    refine ⟨_, (pss_cons (ps_set (i := 3) sc__law_digits.nd rfl (Or.inl rfl) (pe_lst pa_nil))
      (pss_cons (ps_set (i := 4) sc__law_digits.nd rfl (Or.inl rfl) (pe_cmp (pc_ge (pv 0) (pe_op op_pow pe_int pe_int))))
      (pss_cons (ps_for (passes_of rfl) rfl (pi_range1 rfl T.b_range (pa_cons (pv 2) pa_nil)) (pg_name (i := 5) sc__law_digits.nd rfl (Or.inl rfl)) (pss_one (ps_if (pt_val (pv 4)) (pss_cons (ps_expr (pe_bm PySem.F.plainAttrs_list PySem.F.slot_list_append PySem.F.type_list_append mt_append (pv 3) (pa_cons (pe_op op_mod (pe_callTy call_int1 (by rfl) T.b_int (by decide +kernel) (pa_cons (pv 0) pa_nil)) (pv 1)) pa_nil)))
      (pss_one (ps_set (i := 0) sc__law_digits.nd rfl (Or.inl rfl) (pe_op op_fdivW (pv 0) (pv 1))))) (pss_one (ps_expr (pe_bm PySem.F.plainAttrs_list PySem.F.slot_list_append PySem.F.type_list_append mt_append (pv 3) (pa_cons (pe_op op_mod (pe_op op_mod (pe_callTy call_int1 (by rfl) T.b_int (by decide +kernel) (pa_cons (pe_op op_add (pe_op op_add (pe_op op_mul (pv 0) pe_int) (pe_op op_mul (pe_op op_mul (pe_op op_add (pv 5) pe_int) (pe_op op_add (pv 5) pe_int)) pe_int)) (pe_op op_mul (pe_op op_fdivW (pv 0) pe_int) (pv 5))) pa_nil)) pe_int) (pv 1)) pa_nil)))))))
      (pss_one (ps_ret (pv 3)))))), ?_⟩
    obtain ⟨KK, EE, hK0, hE, hw⟩ := cW_gen hw
    have S0 := Sep.startG sG
    unfold F__law_digits at hw
    refine ⟨(by show 0 ≤ sizeLine; decide), fun p250 n251 => ?_⟩
    generalize g252 : upd H p250 _ = H253
    obtain ⟨e254, h255⟩ := gen_new n251 g252
    have h256 : H253 p250 = some (.lst ((([] : (List Int)) : (List Int)).map V.int)) := h255
    have fr257 := S0.free n251
    have S258 := S0.new n251 e254 h256 fr257
    refine ⟨_, rfl, _, _, rfl, rfl, ⟨by decide, by decide, by decide⟩, _, _, rfl, rfl, ?_⟩
    have hw := cW_bnd hw
    obtain ⟨g260, hw⟩ := cW_grd hw
    obtain ⟨K263, hK264, hw⟩ := cW_push hw
    refine ⟨_, rfl, _, rfl, g260.1, g260.2, for_range (lo := 0) (n := Int.toNat (most')) (fun i σ H' => ∃ (cell_265 : Int) (digits_266 : (List Int)) (u267 : Option V) (G' : Hp), σ = [some (V.int cell_265), some (V.int (base')), some (V.int (most')), some (V.ref p250), some (V.bl (decide (((10 : Int) ^ Int.toNat 18) ≤ cell'))), u267] ∧ Same G G' ∧ Sep [] H G G' H' [p250] ∧ H' p250 = some (.lst ((digits_266 : (List Int)).map V.int)) ∧ cW (forS (List.drop i (rng (0) (Int.toNat (most')))) (cell_265, digits_266) (fun s x => F__law_digits_b1 (base') (decide (((10 : Int) ^ Int.toNat 18) ≤ cell')) (s.1) (s.2) x)) K263 EE) ?_ ?_ ?_⟩
    · exact ⟨(cell'), (([] : (List Int))), _, _, rfl, (Same.refl _), S258, h256, hw⟩
    · intro i σ H268 hi hw
      obtain ⟨cell_265, digits_266, u267, G271, rfl, eG272, S269, h270, hw⟩ := hw
      have hw := cW_forS (rng_get hi) hw
      generalize (0 + (i : Int)) = x273 at hw ⊢
      have hw : cW (F__law_digits_b1 (base') (decide (((10 : Int) ^ Int.toNat 18) ≤ cell')) (cell_265) (digits_266) (x273)) _ EE := hw
      unfold F__law_digits_b1 at hw
      obtain ⟨K276, hK277, hw⟩ := cW_name hw
      refine ⟨_, rfl, _, rfl, ?_⟩
      refine iteB (fun c279 => ?_) (fun c279 => ?_)
      · have hw := cW_pos c279 hw
        refine ⟨_, rfl, (.inl ⟨rfl, _, SqL.of h270⟩), _, rfl, .inl ⟨_, rfl, ?_⟩⟩
        obtain ⟨g280, hw⟩ := cW_grd hw
        obtain ⟨g281, hw⟩ := cW_grd hw
        refine ⟨_, rfl, _, _, rfl, rfl, g280, _, _, _, rfl, rfl, h270, (app_lenM g281), ?_⟩
        generalize g282 : upd H268 p250 _ = H283
        obtain ⟨x284, h285⟩ := gen_mut g282
        have h286 : H283 p250 = some (.lst (((digits_266) ++ [(cell_265 % base')] : (List Int)).map V.int)) := snoc_map h285
        have S287 := S269.mut1 x284 (.head _) h286
        have hw := cW_bnd hw
        obtain ⟨g289, hw⟩ := cW_grd hw
        refine ⟨_, rfl, _, rfl, _, _, rfl, rfl, (divW_small g289.1 g289.2), ?_⟩
        have hw := cW_bnd hw
        have hw := cW_ok hw
        have hw := hK277 _ hw
        exact ⟨((cell_265 / base')), ((digits_266) ++ [(cell_265 % base')]), _, _, rfl, eG272, S287, h286, hw⟩
      · have hw := cW_negB c279 hw
        obtain ⟨g291, hw⟩ := cW_grd hw
        obtain ⟨g292, hw⟩ := cW_grd hw
        refine ⟨_, rfl, (.inl ⟨rfl, _, SqL.of h270⟩), _, rfl, _, _, rfl, rfl, (.inr ⟨by decide, by decide⟩), _, rfl, _, _, rfl, rfl, _, rfl, _, _, rfl, rfl, _, _, rfl, rfl, g291, _, _, rfl, rfl, (.inr ⟨by decide, by decide⟩), _, _, rfl, rfl, _, rfl, _, _, rfl, rfl, (divW_lit (by decide) (by decide)), _, rfl, _, _, rfl, rfl, g292, _, _, rfl, rfl, .inl ⟨_, rfl, ?_⟩⟩
        obtain ⟨g293, hw⟩ := cW_grd hw
        obtain ⟨g294, hw⟩ := cW_grd hw
        refine ⟨_, _, rfl, rfl, (show (0 : Int) < 2147483647 by decide), _, rfl, _, _, rfl, rfl, g293, _, _, _, rfl, rfl, h270, (app_lenM g294), ?_⟩
        generalize g295 : upd H268 p250 _ = H296
        obtain ⟨x297, h298⟩ := gen_mut g295
        have h299 : H296 p250 = some (.lst (((digits_266) ++ [(((((cell_265 * 48271) + (((x273 + 1) * (x273 + 5)) * 69621)) + ((cell_265 / 97) * x273)) % 2147483647) % base')] : (List Int)).map V.int)) := snoc_map h298
        have S300 := S269.mut1 x297 (.head _) h299
        have hw := cW_bnd hw
        have hw := cW_ok hw
        have hw := hK277 _ hw
        exact ⟨(cell_265), ((digits_266) ++ [(((((cell_265 * 48271) + (((x273 + 1) * (x273 + 5)) * 69621)) + ((cell_265 / 97) * x273)) % 2147483647) % base')]), _, _, rfl, eG272, S300, h299, hw⟩
    · intro σ H302 hw
      obtain ⟨cell_265, digits_266, u267, G305, rfl, eG306, S303, h304, hw⟩ := hw
      have hw := hK264 _ (cW_forS0 (rng_len _ _).symm hw)
      have hw : cW (F__law_digits_r1  (cell_265) (digits_266)) _ EE := hw
      unfold F__law_digits_r1 at hw
      refine ⟨_, rfl, ?_⟩
      have hw := cW_ok hw
      exact hK0 _ hw _ _ fr257 S303.b0 h304

abbrev N_check_square : List Str := ["square", "row"]
theorem sc_check_square : FnScope N_check_square ["square"] (defScope s_check_square) := ⟨rfl, rfl, rfl, by decide +kernel, rfl, by decide +kernel, by decide +kernel⟩
theorem ok_check_square (D : DefX K mg "check_square" s_check_square ["square"] pats_check_square) (T : Txt K mg AD) (c_check_size : CalX P w K mg base 1 "check_size" (sp_check_size K AD) pats_check_size) : CalX P w K mg base 2 "check_square" (sp_check_square K AD) pats_check_square := by
  refine D.ok sc_check_square (fun vs H Q E h => ?_) (fun f cdv A_ outer s H vs Q E hr h => ?_)
  · obtain ⟨G, v_square, square', rfl, _⟩ := h
    rfl
  · obtain ⟨G, v_square, square', rfl, sG, r_square, hw⟩ := h
    refine ⟨_, (pss_cons (ps_expr (vx_callX c_check_size pat_check_size_0 (.head _) hr (by decide) (takes_of rfl rfl rfl rfl) rfl (pa_cons (pe_callB (call_lenLK (K := K)) (by rfl) T.b_len (by decide +kernel) (pa_cons (pv 0) pa_nil)) pa_nil) pk_nil))
      (pss_one (ps_for (passes_of rfl) rfl (pi_listK (K := K) (pv 0)) (pg_name (i := 1) sc_check_square.nd rfl (Or.inl rfl)) (pss_one (ps_if (pt_cmp (pc_neI (pe_callB (call_lenLiK (K := K)) (by rfl) T.b_len (by decide +kernel) (pa_cons (pv 1) pa_nil)) (pe_callB (call_lenLK (K := K)) (by rfl) T.b_len (by decide +kernel) (pa_cons (pv 0) pa_nil)))) (pss_one (ps_raise rfl (takes_of rfl rfl rfl rfl) (pmk_own PySem.F.excBase_ValueError T.xx_OutOfRange T.xg_OutOfRange T.xk_OutOfRange (raises_own T.xb_OutOfRange T.xt_OutOfRange) rfl))) pss_nil))))), ?_⟩
    obtain ⟨KK, EE, hK0, hE, hw⟩ := cW_gen hw
    have S0 := Sep.startG sG
    unfold F_check_square at hw
    obtain ⟨a309, vs310, rfl, h311, d312⟩ := rp_list r_square
    refine ⟨_, rfl, _, _, _, rfl, (SqL.of (S0.bM _ _ h311)), (by rw [d312.len, List.length_map]), rfl, rfl, G, _, rfl, S0.sG, cW_call hw (fun v313 hw => ?_) (fun e he => hE e he _ S0.b0)⟩
    obtain ⟨K315, hK316, hw⟩ := cW_push hw
    refine ⟨_, rfl, _, rfl, ⟨_, (SqL.of (S0.bM _ _ h311))⟩, for_list (K := K) (a := a309) (xs := vs310) (fun i σ H' => ∃ (u317 : Option V) (G' : Hp), σ = [some (V.ref a309), u317] ∧ Same G G' ∧ Sep [] H G G' H' [] ∧ cW (forS (List.drop i (square')) () (fun s x => F_check_square_b1 (square')  x)) K315 EE) ?_ ?_ ?_ ?_⟩
    · exact ⟨_, _, rfl, (Same.refl _), S0, hw⟩
    · intro i σ H318 _ hw
      obtain ⟨u317, G320, rfl, eG321, S319, hw⟩ := hw
      exact (SqL.of (S319.bM _ _ h311))
    · intro i x σ H322 hj hw
      obtain ⟨u317, G324, rfl, eG325, S323, hw⟩ := hw
      obtain ⟨x326, hx, r327⟩ := RpAll.get d312 hj
      obtain ⟨a328, rfl, h329⟩ := rp_ints r327
      have hw := cW_forS hx hw
      have hw : cW (F_check_square_b1 (square')  (x326)) _ EE := hw
      unfold F_check_square_b1 at hw
      obtain ⟨K330, hK331, hw⟩ := cW_name hw
      refine ⟨_, rfl, _, _, rfl, (SqL.of (S323.bM _ _ h329)), _, rfl, _, _, _, rfl, (SqL.of (S323.bM _ _ h311)), (by rw [d312.len, List.length_map]), _, _, rfl, rfl, _, rfl, ?_⟩
      refine iteN (fun c333 => ?_) (fun c333 => ?_)
      · have hw := cW_neg c333 hw
        exact hE 1 (cW_er hw) _ S323.b0
      · have hw := cW_pos c333 hw
        have hw := cW_ok hw
        have hw := hK331 _ hw
        exact ⟨_, _, rfl, eG325, S323, hw⟩
    · intro σ H334 hw
      obtain ⟨u317, G336, rfl, eG337, S335, hw⟩ := hw
      have hw := hK316 _ (cW_forS0 (by rw [d312.len, List.length_map]) hw)
      have hw : cW (F_check_square_r1  ) _ EE := hw
      unfold F_check_square_r1 at hw
      have hw := cW_ok hw
      exact hK0 _ hw _ S335.b0

abbrev N_to_levels : List Str := ["square", "row", "column"]
theorem sc_to_levels : FnScope N_to_levels ["square"] (defScope s_to_levels) := ⟨rfl, rfl, rfl, by decide +kernel, rfl, by decide +kernel, by decide +kernel⟩
theorem ok_to_levels (D : DefX K mg "to_levels" s_to_levels ["square"] pats_to_levels) (T : Txt K mg AD) (c_check_square : CalX P w K mg base 2 "check_square" (sp_check_square K AD) pats_check_square) (c_scan_order : CalX P w K mg base 2 "scan_order" (sp_scan_order K AD) pats_scan_order) : CalX P w K mg base 3 "to_levels" (sp_to_levels K AD) pats_to_levels := by
  refine D.ok sc_to_levels (fun vs H Q E h => ?_) (fun f cdv A_ outer s H vs Q E hr h => ?_)
  · obtain ⟨G, v_square, square', rfl, _⟩ := h
    rfl
  · obtain ⟨G, v_square, square', rfl, sG, r_square, hw⟩ := h
    refine ⟨_, (pss_cons (ps_expr (vx_callX c_check_square pat_check_square_0 (.head _) hr (by decide) (takes_of rfl rfl rfl rfl) rfl (pa_cons (pv 0) pa_nil) pk_nil))
      (pss_one (ps_ret (pe_lc (own := [("row", 1), ("column", 2)]) (g := gTup K 2 (gCons (gName 1) (gCons (gName 2) gNil))) (by rfl) sc_to_levels.nd (pi_listK (K := K) (vx_callX c_scan_order pat_scan_order_0 (.head _) hr (by decide) (takes_of rfl rfl rfl rfl) rfl (pa_cons (pe_callB (call_lenLK (K := K)) (by rfl) T.b_len (by decide +kernel) (pa_cons (pv 0) pa_nil)) pa_nil) pk_nil)) (blkOk_by (own := [("row", 1), ("column", 2)]) (N := N_to_levels) (sc := defScope s_to_levels) (by decide +kernel)) (fun _ _ _ _ _ => (pg_tupK (K := K) (n := 2) (pgs_cons (pg_name (i := 1) sc_to_levels.nd rfl (Or.inl rfl)) (pgs_cons (pg_name (i := 2) sc_to_levels.nd rfl (Or.inl rfl)) pgs_nil)))) (fun _ _ _ _ _ => pts_nil) (fun _ _ _ _ _ => (pe_ix (ix_listK (K := K)) (pe_ix (ix_listK (K := K)) (pv 0) (pv 1) (fun _ _ => rfl)) (pv 2) (fun _ _ => rfl))))))), ?_⟩
    obtain ⟨KK, EE, hK0, hE, hw⟩ := cW_gen hw
    have S0 := Sep.startG sG
    unfold F_to_levels at hw
    obtain ⟨a338, vs339, rfl, h340, d341⟩ := rp_list r_square
    refine ⟨_, rfl, rfl, rfl, G, _, _, rfl, S0.sG, (Rp.hide_nil (rp_mk_list (S0.bM _ _ h340) (RpAll.mono S0.bM d341))), cW_call hw (fun v342 hw H343 e344 => ?_) (fun e he H2 e2 => hE e he H2 (Same.trans S0.b0 e2))⟩
    have S345 := S0.same e344
    refine ⟨_, rfl, _, _, _, rfl, (SqL.of (S345.bM _ _ h340)), (by rw [d341.len, List.length_map]), rfl, rfl, G, _, rfl, S345.sG, cW_call hw (fun v346 hw p349 vs350 H347 G351 n352 e348 eG353 sG354 hn355 gp356 h357 d358 => ?_) (fun e he H2 e2 => hE e he H2 (Same.trans S345.b0 e2))⟩
    have fr360 := S345.free n352
    have S359 := S345.stepnew e348 eG353 sG354 hn355 n352 h357 gp356 fr360
    obtain ⟨K363, hK364, hw⟩ := cW_push hw
    refine ⟨_, rfl, ⟨_, (SqL.of h357)⟩, fun D365 n366 => lc_list (K := K) (a := p349) (xs := vs350) (fun i H' => ∃ (G' : Hp) (acc368 : (List Int)), Same G351 G' ∧ Sep [] H G G' H' [D365, p349] ∧ H' p349 = some (.lst (vs350)) ∧ H' D365 = some (.lst ((acc368 : (List Int)).map V.int)) ∧ Same H347 H' ∧ cW (mapA (List.drop i (v346)) acc368 (fun x => noEr (F_to_levels_c1 (square') x))) K363 EE) ?_ ?_ ?_ ?_⟩
    · generalize g370 : upd H347 D365 _ = H371
      obtain ⟨e372, h373⟩ := gen_new n366 g370
      have fr374 := S359.free n366
      have S375 := S359.new n366 e372 h373 fr374
      have h376 := (e372 _ _ h357)
      exact ⟨_, [], Same.refl _, S375, h376, h373, e372, hw⟩
    · intro i H377 _ hw
      obtain ⟨G380, acc382, eG381, S378, h389, h379, eo388, hw⟩ := hw
      exact (SqL.of h389)
    · intro i x H390 hj hw
      obtain ⟨G393, acc395, eG394, S391, h402, h392, eo401, hw⟩ := hw
      obtain ⟨x403, hx, r404⟩ := RpAll.get (RpAll.mono eG394 d358) hj
      obtain ⟨a405, v407, v408, rfl, h406, r409, r410⟩ := rp_tup2 r404
      obtain rfl := rp_int r409
      obtain rfl := rp_int r410
      obtain ⟨z411, hw⟩ := cW_mapA hx hw
      have hw := cW_noEr hw
      have hw : cW (F_to_levels_c1 (square') (x403)) _ (fun _ => False) := hw
      unfold F_to_levels_c1 at hw
      refine ⟨_, _, rfl, (SqT.of (S391.sG _ _ h406)), rfl, _, _, rfl, _, _, rfl, rfl, rfl, ?_⟩
      refine tyes_go ?_
      obtain ⟨g413, hw⟩ := cW_grd hw
      obtain ⟨v414, a415, r416⟩ := RpAll.ixD (k := x403.1) d341 g413
      obtain ⟨a417, rfl, h418⟩ := rp_ints r416
      obtain ⟨g419, hw⟩ := cW_grd hw
      refine ⟨_, rfl, _, rfl, _, _, _, _, rfl, rfl, (SqL.of (S391.bM _ _ h340)), a415, _, rfl, _, _, _, _, rfl, rfl, (SqL.of (S391.bM _ _ h418)), (atI_map g419), _, h392, (app_lenM z411), ?_⟩
      generalize g420 : upd H390 D365 _ = H421
      obtain ⟨x422, h423⟩ := gen_mut g420
      have S424 := S391.mut1 x422 (.head _) h423
      have hw := cW_ok hw
      have h425 := (x422 _ _ h402 (ne_of_none h357 n366))
      exact ⟨_, (acc395 ++ [(itD ((itD (square') (x403.1))) (x403.2))]), eG394, S424, h425, (snoc_map h423), (same_mut eo401 x422 n366), hw⟩
    intro H426 hw
    obtain ⟨G429, acc431, eG430, S427, h438, h428, eo437, hw⟩ := hw
    have hw := hK364 _ (cW_mapA0 (by rw [(RpAll.mono eG430 d358).len, List.length_map]) hw)
    have fr439 := S359.free n366
    have hw := cW_ok hw
    exact hK0 _ hw _ _ fr439 S427.b0 h428

abbrev N_to_square : List Str := ["levels", "size", "square", "level", "row", "column", "_"]
theorem sc_to_square : FnScope N_to_square ["levels"] (defScope s_to_square) := ⟨rfl, rfl, rfl, by decide +kernel, rfl, by decide +kernel, by decide +kernel⟩
theorem ok_to_square (D : DefX K mg "to_square" s_to_square ["levels"] pats_to_square) (T : Txt K mg AD) (c_scan_order : CalX P w K mg base 2 "scan_order" (sp_scan_order K AD) pats_scan_order) : CalX P w K mg base 3 "to_square" (sp_to_square K AD) pats_to_square := by
  refine D.ok sc_to_square (fun vs H Q E h => ?_) (fun f cdv A_ outer s H vs Q E hr h => ?_)
  · obtain ⟨G, a_levels, levels', rfl, _⟩ := h
    rfl
  · obtain ⟨G, a_levels, levels', rfl, sG, q_levels, hw⟩ := h
    refine ⟨_, (pss_cons (ps_if (pt_cmpR (op_notInDI (K := K)) (pe_callB (call_lenLiK (K := K)) (by rfl) T.b_len (by decide +kernel) (pa_cons (pv 0) pa_nil)) (C8.pe_gc (v := V.ref AD.t_SIZES_BY_COUNT) rfl T.g_SIZES_BY_COUNT) (by with_unfolding_all rfl)) (pss_one (ps_raise rfl (takes_of rfl rfl rfl rfl) (pmk_own PySem.F.excBase_ValueError T.xx_OutOfRange T.xg_OutOfRange T.xk_OutOfRange (raises_own T.xb_OutOfRange T.xt_OutOfRange) rfl))) pss_nil)
      (pss_cons (ps_set (i := 1) sc_to_square.nd rfl (Or.inr rfl) (pe_ix (ix_DI (K := K)) (C8.pe_gc (v := V.ref AD.t_SIZES_BY_COUNT) rfl T.g_SIZES_BY_COUNT) (pe_callB (call_lenLiK (K := K)) (by rfl) T.b_len (by decide +kernel) (pa_cons (pv 0) pa_nil)) (fun _ _ => rfl)))
      (pss_cons (ps_setLc (i := 2) (y := "square") rfl sc_to_square.nd rfl rfl (sw_true rfl rfl rfl (by decide +kernel)) (own := [("_", 6)]) (g := gName 6) (pi_range1 rfl T.b_range (pa_cons (pv 1) pa_nil)) (blkOk_by (own := [("_", 6)]) (N := N_to_square) (sc := defScope s_to_square) (by decide +kernel)) (fun _ _ _ _ _ => (pg_name (i := 6) sc_to_square.nd rfl (Or.inl rfl))) (fun _ _ _ _ _ => pts_nil) (fun _ _ _ _ _ => (pe_op op_rep (pe_lst (pa_cons pe_int pa_nil)) (pv 1))))
      (pss_cons (ps_for (passes_of rfl) rfl (pi_zipK (K := K) rfl T.b_zip (pa_cons (pv 0) (pa_cons (vx_callX c_scan_order pat_scan_order_0 (.head _) hr (by decide) (takes_of rfl rfl rfl rfl) rfl (pa_cons (pv 1) pa_nil) pk_nil) pa_nil))) (pg_tupK (K := K) (n := 2) (pgs_cons (pg_name (i := 3) sc_to_square.nd rfl (Or.inl rfl)) (pgs_cons (pg_tupK (K := K) (n := 2) (pgs_cons (pg_name (i := 4) sc_to_square.nd rfl (Or.inl rfl)) (pgs_cons (pg_name (i := 5) sc_to_square.nd rfl (Or.inl rfl)) pgs_nil))) pgs_nil))) (pss_one (ps_asg (pv 3) (pg_sub (pe_ix (ix_listK (K := K)) (pv 2) (pv 4) (fun _ _ => rfl)) (pv 5) set_list))))
      (pss_one (ps_ret (pv 2))))))), ?_⟩
    obtain ⟨KK, EE, hK0, hE, hw⟩ := cW_gen hw
    have S0 := Sep.startG sG
    unfold F_to_square at hw
    refine ⟨_, rfl, _, _, rfl, (SqL.of (S0.bM _ _ q_levels)), _, _, [(16, 4), (64, 8)], [16, 64], rfl, rfl, T.kd_SIZES_BY_COUNT, rfl, _, rfl, ?_⟩
    refine iteN (fun c440 => ?_) (fun c440 => ?_)
    · have hw := cW_neg c440 hw
      exact hE 1 (cW_er hw) _ S0.b0
    · have hw := cW_pos c440 hw
      obtain ⟨g441, hw⟩ := cW_grd hw
      refine ⟨_, rfl, _, _, rfl, (SqL.of (S0.bM _ _ q_levels)), _, _, _, [(16, 4), (64, 8)], rfl, rfl, T.kd_SIZES_BY_COUNT, (lookI_at (kvs := [(16, 4), (64, 8)]) g441), ?_⟩
      have hw := cW_bnd hw
      obtain ⟨g443, hw⟩ := cW_grd hw
      obtain ⟨K446, hK447, hw⟩ := cW_push hw
      refine ⟨_, rfl, _, rfl, g443.1, g443.2, fun D448 n449 => lc_range (lo := 0) (n := Int.toNat ((dictI [(16, 4), (64, 8)] ((((levels') : (List Int)).length : Int))))) (fun i H' => ∃ (G' : Hp) (acc451 : (List (List Int))) (vs452 : List V) (L450 : List Addr), Same G G' ∧ Sep [] H G G' H' (D448 :: (L450 ++ [])) ∧ H' D448 = some (.lst vs452) ∧ OwAll G' H' L450 vs452 ((acc451 : (List (List Int))).map (oL oI)) ∧ (∀ b ∈ L450, H b = none) ∧ (∀ b ∈ L450, b ≠ D448) ∧ Same H H' ∧ cW (mapA (List.drop i (rng (0) (Int.toNat ((dictI [(16, 4), (64, 8)] ((((levels') : (List Int)).length : Int))))))) acc451 (fun x => noEr (F_to_square_c1 ((dictI [(16, 4), (64, 8)] ((((levels') : (List Int)).length : Int)))) x))) K446 EE) ?_ ?_ ?_⟩
      · generalize g453 : upd H D448 _ = H454
        obtain ⟨e455, h456⟩ := gen_new n449 g453
        have fr457 := S0.free n449
        have S458 := S0.new n449 e455 h456 fr457
        exact ⟨_, [], [], [], Same.refl _, (S458.sub (all_cons (.head _) (all_app (L := []) all_nil all_nil))), h456, OwAll.nil, all_nil, all_nil, e455, hw⟩
      · intro i H459 hi hw
        obtain ⟨G462, acc464, vs465, L467, eG463, S460, h461, d466, nb468, nd469, eo470, hw⟩ := hw
        obtain ⟨z471, hw⟩ := cW_mapA (rng_get hi) hw
        generalize (0 + (i : Int)) = x472 at hw ⊢
        have hw := cW_noEr hw
        have hw : cW (F_to_square_c1 ((dictI [(16, 4), (64, 8)] ((((levels') : (List Int)).length : Int)))) (x472)) _ (fun _ => False) := hw
        unfold F_to_square_c1 at hw
        refine ⟨rfl, ?_⟩
        refine tyes_go ?_
        refine ⟨(by show 1 ≤ sizeLine; decide), fun p474 n475 => ?_⟩
        generalize g476 : upd H459 p474 _ = H477
        obtain ⟨e478, h479⟩ := gen_new n475 g476
        have h480 : H477 p474 = some (.lst (([0] : (List Int)).map V.int)) := h479
        have fr481 := S460.free n475
        have S482 := S460.new n475 e478 h480 fr481
        obtain ⟨g483, hw⟩ := cW_grd hw
        refine ⟨_, rfl, _, _, _, rfl, rfl, h480, g483.1, g483.2.1, (rep_lenM g483.2.2), fun p484 n485 => ?_⟩
        generalize g486 : upd H477 p484 _ = H487
        obtain ⟨e488, h489⟩ := gen_new n485 g486
        have h490 : H487 p484 = some (.lst ((repL ([0]) ((dictI [(16, 4), (64, 8)] ((((levels') : (List Int)).length : Int)))) : (List Int)).map V.int)) := rep_map h489
        have fr491 := S482.free n485
        have S492 := S482.new n485 e488 h490 fr491
        have w493 : OwAll G462 H487 L467 (vs465) ((acc464 : (List (List Int))).map (oL oI)) := (OwAll.mono (Same.refl _) (keeps_same e488) (OwAll.mono (Same.refl _) (keeps_same e478) d466))
        have h494 := (e488 _ _ (e478 _ _ h461))
        refine ⟨_, h494, (app_len (OwAll.rpA w493 (encO_L encO_I) S492.sG) z471), ?_⟩
        generalize g495 : upd H487 D448 _ = H496
        obtain ⟨x497, h498⟩ := gen_mut g495
        have S499 := S492.mut1 x497 (.tail _ (.tail _ (.head _))) h498
        have hw := cW_ok hw
        exact ⟨_, (acc464 ++ [repL ([0]) ((dictI [(16, 4), (64, 8)] ((((levels') : (List Int)).length : Int))))]), _, (L467 ++ (p484 :: ([] : List Addr))), eG463, (S499.sub (all_cons (.tail _ (.tail _ (.head _))) (all_app (all_app ((fun b hb => (.tail _ (.tail _ (.tail _ (List.mem_append_left _ hb))))) : ∀ b ∈ L467, b ∈ (p484 :: (p474 :: (D448 :: (L467 ++ []))))) (all_cons (.head _) all_nil)) all_nil))), h498, (OwAll.mono (Same.refl _) (keeps_mut x497 ((all_app nd469 (all_cons (ne_of_none (e478 _ _ h461) n485).symm all_nil)) : ∀ b ∈ (L467 ++ (p484 :: ([] : List Addr))), b ≠ D448)) (OwAll.snocM w493 (Ow.ints h490) ((fun b hb => (nm_cons ((there_ne (fun b_ hb_ => (S482.ow b_ (((fun b hb => (.tail _ (.tail _ (List.mem_append_left _ hb)))) : ∀ b ∈ L467, b ∈ (p474 :: (D448 :: (L467 ++ [])))) b_ hb_)).2.1) n485) b hb) nm_nil)) : ∀ b ∈ L467, b ∉ (p484 :: ([] : List Addr))))), ((all_app nb468 (all_cons (none_of_same (Same.trans eo470 e478) n485) all_nil)) : ∀ b ∈ (L467 ++ (p484 :: ([] : List Addr))), H b = none), ((all_app nd469 (all_cons (ne_of_none (e478 _ _ h461) n485).symm all_nil)) : ∀ b ∈ (L467 ++ (p484 :: ([] : List Addr))), b ≠ D448), (same_mut (Same.trans (Same.trans eo470 e478) e488) x497 n449), hw⟩
      intro H500 hw
      obtain ⟨G503, acc505, vs506, L508, eG504, S501, h502, d507, nb509, nd510, eo511, hw⟩ := hw
      have hw := hK447 _ (cW_mapA0 (rng_len _ _).symm hw)
      have fr512 := S0.free n449
      refine ⟨_, rfl, _, rfl, rfl, rfl, G503, _, rfl, S501.sG, cW_call hw (fun v513 hw p516 vs517 H514 G518 n519 e515 eG520 sG521 hn522 gp523 h524 d525 => ?_) (fun e he H2 e2 => hE e he H2 (Same.trans S501.b0 e2))⟩
      have fr527 := S501.free n519
      have S526 := S501.stepnew e515 eG520 sG521 hn522 n519 h524 gp523 fr527
      obtain ⟨K528, hK529, hw⟩ := cW_push hw
      refine ⟨_, _, _, _, rfl, .inl ⟨(SqL.of (S526.bM _ _ q_levels)), (SqL.of h524), for_zipM (K := K) (a := a_levels) (b := p516) (xs := (levels' : List Int).map V.int) (ys := vs517) (min ((levels' : (List Int)).length) ((v513 : (List (Int × Int))).length)) (zipM_n (by rw [List.length_map]) (by rw [d525.len, List.length_map])) (fun i σ H' => ∃ (square_530 : (List (List Int))) (vs531 : List V) (L532 : List Addr) (u533 : Option V) (u534 : Option V) (u535 : Option V) (G' : Hp), σ = [some (V.ref a_levels), some (V.int ((dictI [(16, 4), (64, 8)] ((((levels') : (List Int)).length : Int))))), some (V.ref D448), u533, u534, u535, none] ∧ Same G518 G' ∧ Sep [] H G G' H' (D448 :: (p516 :: (L532 ++ []))) ∧ H' D448 = some (.lst (vs531)) ∧ H' p516 = some (.lst (vs517)) ∧ (∀ b ∈ L532, b ≠ D448) ∧ (∀ b ∈ L532, b ≠ p516) ∧ OwAll G' H' L532 (vs531) ((square_530 : (List (List Int))).map (oL oI)) ∧ cW (forS (List.drop i (List.zip (levels') (v513))) square_530 (fun s x => F_to_square_b2  s x)) K528 EE) ?_ ?_ ?_ ?_⟩⟩
      · have h536 := (e515 _ _ h502)
        have w537 : OwAll G518 H514 L508 (vs506) ((acc505 : (List (List Int))).map (oL oI)) := (OwAll.mono eG520 keeps_refl (OwAll.mono (Same.refl _) (keeps_same e515) d507))
        exact ⟨(acc505), (vs506), L508, _, _, _, _, rfl, (Same.refl _), (S526.sub (all_cons (.tail _ (.head _)) (all_cons (.head _) (all_app ((fun b hb => (.tail _ (.tail _ (List.mem_append_left _ hb)))) : ∀ b ∈ L508, b ∈ (p516 :: (D448 :: (L508 ++ [])))) all_nil)))), h536, h524, nd510, (there_ne (fun b_ hb_ => (S501.ow b_ (((fun b hb => (.tail _ (List.mem_append_left _ hb))) : ∀ b ∈ L508, b ∈ (D448 :: (L508 ++ []))) b_ hb_)).2.1) n519), w537, hw⟩
      · intro i σ H538 hw
        obtain ⟨square_530, vs531, L532, u533, u534, u535, G545, rfl, eG546, S539, h540, h541, ne542, ne543, w544, hw⟩ := hw
        exact ⟨(SqL.of (S539.bM _ _ q_levels)), (SqL.of h541)⟩
      · intro i x y T548 σ H547 hj hj2 n549 hw
        obtain ⟨square_530, vs531, L532, u533, u534, u535, G556, rfl, eG557, S550, h551, h552, ne553, ne554, w555, hw⟩ := hw
        obtain ⟨x558, hx559, rfl⟩ := map_get hj
        obtain ⟨x560, hx561, r562⟩ := RpAll.get (RpAll.mono eG557 d525) hj2
        obtain ⟨a563, v565, v566, rfl, h564, r567, r568⟩ := rp_tup2 r562
        obtain rfl := rp_int r567
        obtain rfl := rp_int r568
        generalize g569 : upd H547 T548 _ = H570
        obtain ⟨e571, h572⟩ := gen_new n549 g569
        have h573 : H570 T548 = some (.tup [V.int (x558), V.ref a563]) := h572
        have fr574 := S550.free n549
        obtain ⟨G576, eG577, hg578, S575⟩ := S550.grow n549 e571 h573 fr574
        have hw := cW_forS (zip_get hx559 hx561) hw
        have hw : cW (F_to_square_b2  (square_530) ((x558, x560))) _ EE := hw
        unfold F_to_square_b2 at hw
        obtain ⟨K580, hK581, hw⟩ := cW_name hw
        obtain ⟨g583, hw⟩ := cW_grd hw
        have w584 : OwAll G576 H570 L532 (vs531) ((square_530 : (List (List Int))).map (oL oI)) := (OwAll.mono eG577 keeps_refl (OwAll.mono (Same.refl _) (keeps_same e571) w555))
        obtain ⟨v585, L586, a587, w588, hs589, up590, gr591⟩ := OwAll.partM (k := x560.1) w584 g583
        have h592 := (e571 _ _ h551)
        obtain ⟨b593, rfl, rfl, h594⟩ := Ow.toInts w588
        obtain ⟨g595, hw⟩ := cW_grd hw
        refine ⟨_, _, rfl, (SqT.of (S575.sG _ _ hg578)), rfl, _, _, rfl, _, _, rfl, _, _, rfl, (SqT.of (S575.sG _ _ (eG577 _ _ h564))), rfl, _, _, rfl, _, _, rfl, rfl, rfl, _, rfl, _, rfl, _, rfl, _, _, _, _, rfl, rfl, (SqL.of h592), a587, _, rfl, _, _, _, _, rfl, rfl, h594, (ixN_map g595), ?_⟩
        generalize g596 : upd H570 b593 _ = H597
        obtain ⟨x598, h599⟩ := gen_mut g596
        have h600 : H597 b593 = some (.lst ((setL ((itD (square_530) (x560.1))) (x560.2) (x558) : (List Int)).map V.int)) := set_map h599
        have S601 := S575.mut1 x598 ((((fun b hb => (.tail _ (.tail _ (List.mem_append_left _ hb)))) : ∀ b ∈ L532, b ∈ (D448 :: (p516 :: (L532 ++ [])))) : ∀ b ∈ L532, b ∈ (D448 :: (p516 :: (L532 ++ [])))) _ (hs589 _ List.mem_cons_self)) h600
        have w602 : OwAll G576 H597 L532 (vs531) ((setL (square_530) (x560.1) (setL ((itD (square_530) (x560.1))) (x560.2) (x558)) : (List (List Int))).map (oL oI)) := upd_tree up590 x598 List.mem_cons_self (Ow.ints h600)
        have hw := cW_bnd hw
        have hw := cW_ok hw
        have hw := hK581 _ hw
        have h604 := (x598 _ _ h592 (ne553 _ (hs589 _ List.mem_cons_self)).symm)
        have h605 := (x598 _ _ (e571 _ _ h552) (ne554 _ (hs589 _ List.mem_cons_self)).symm)
        exact ⟨(setL (square_530) (x560.1) (setL ((itD (square_530) (x560.1))) (x560.2) (x558))), (vs531), L532, _, _, _, _, rfl, (Same.trans eG557 eG577), (S601.sub (all_cons (.head _) (all_cons (.tail _ (.head _)) (all_app ((fun b hb => (.tail _ (.tail _ (List.mem_append_left _ hb)))) : ∀ b ∈ L532, b ∈ (D448 :: (p516 :: (L532 ++ [])))) all_nil)))), h604, h605, ne553, ne554, w602, hw⟩
      · intro σ H606 hw
        obtain ⟨square_530, vs531, L532, u533, u534, u535, G613, rfl, eG614, S607, h608, h609, ne610, ne611, w612, hw⟩ := hw
        have hw := hK529 _ (cW_forS0 zipM_len hw)
        have hw : cW (F_to_square_r2  (square_530)) _ EE := hw
        unfold F_to_square_r2 at hw
        refine ⟨_, rfl, ?_⟩
        have hw := cW_ok hw
        exact hK0 _ hw _ _ _ _ _ fr512 ((fun b hb => Sep.h0 S607 (((fun b hb => (.tail _ (.tail _ (List.mem_append_left _ hb)))) : ∀ b ∈ L532, b ∈ (D448 :: (p516 :: (L532 ++ [])))) b hb) nm_nil) : ∀ b ∈ L532, H b = none) (ne610 : ∀ b ∈ L532, b ≠ D448) S607.b0 S607.g0 S607.sG S607.gn (S607.ow _ (.head _)).1 ((fun b hb => (S607.ow b (((fun b hb => (.tail _ (.tail _ (List.mem_append_left _ hb)))) : ∀ b ∈ L532, b ∈ (D448 :: (p516 :: (L532 ++ [])))) b hb)).1) : ∀ b ∈ L532, G613 b = none) h608 w612

abbrev N__law_cell : List Str := ["script", "k"]
theorem sc__law_cell : FnScope N__law_cell ["script", "k"] (defScope s__law_cell) := ⟨rfl, rfl, rfl, by decide +kernel, rfl, by decide +kernel, by decide +kernel⟩
theorem ok__law_cell (D : DefX K mg "_law_cell" s__law_cell ["script", "k"] pats__law_cell) (T : Txt K mg AD)  : CalX P w K mg base 1 "_law_cell" (sp__law_cell K AD) pats__law_cell := by
  refine D.ok sc__law_cell (fun vs H Q E h => ?_) (fun f cdv A_ outer s H vs Q E hr h => ?_)
  · obtain ⟨G, a_script, script', k', rfl, _⟩ := h
    rfl
  · obtain ⟨G, a_script, script', k', rfl, sG, q_script, hw⟩ := h
    refine ⟨_, (pss_cons (ps_if (pt_cmp (pc_lt (pv 1) (pe_callB (call_lenLiK (K := K)) (by rfl) T.b_len (by decide +kernel) (pa_cons (pv 0) pa_nil)))) (pss_one (ps_ret (pe_callB call_abs (by rfl) T.b_abs (by decide +kernel) (pa_cons (pe_callTy call_int1 (by rfl) T.b_int (by decide +kernel) (pa_cons (pe_ix (ix_listK (K := K)) (pv 0) (pv 1) (fun _ _ => rfl)) pa_nil)) pa_nil)))) pss_nil)
      (pss_one (ps_ret pe_int))), ?_⟩
    obtain ⟨KK, EE, hK0, hE, hw⟩ := cW_gen hw
    have S0 := Sep.startG sG
    unfold F__law_cell at hw
    refine ⟨_, rfl, _, rfl, _, _, rfl, (S0.b0.seq q_script), _, _, rfl, rfl, _, rfl, ?_⟩
    refine iteD (fun c616 => ?_) (fun c616 => ?_)
    · have hw := cW_pos c616 hw
      obtain ⟨g617, hw⟩ := cW_grd hw
      refine ⟨_, rfl, _, rfl, _, _, _, _, rfl, rfl, (S0.b0.seq q_script), (atI_map g617), .inl ⟨_, rfl, ?_⟩⟩
      refine ⟨_, rfl, ?_⟩
      have hw := cW_ok hw
      exact hK0 _ hw
    · have hw := cW_neg c616 hw
      have hw := cW_ok hw
      exact hK0 _ hw

abbrev N__law_is_integers : List Str := ["actual", "count", "item"]
theorem sc__law_is_integers : FnScope N__law_is_integers ["actual", "count"] (defScope s__law_is_integers) := ⟨rfl, rfl, rfl, by decide +kernel, rfl, by decide +kernel, by decide +kernel⟩
theorem ok__law_is_integers (D : DefX K mg "_law_is_integers" s__law_is_integers ["actual", "count"] pats__law_is_integers) (T : Txt K mg AD)  : CalX P w K mg base 1 "_law_is_integers" (sp__law_is_integers K AD) pats__law_is_integers := by
  refine D.ok sc__law_is_integers (fun vs H Q E h => ?_) (fun f cdv A_ outer s H vs Q E hr h => ?_)
  · obtain ⟨G, a_actual, actual', count', rfl, _⟩ := h
    rfl
  · obtain ⟨G, a_actual, actual', count', rfl, sG, q_actual, hw⟩ := h
    refine ⟨_, (pss_cons (ps_if (PW.pt (pw_or (pt_not (pt_val (pe_callB call_isi (by rfl) T.b_isinstance (by decide +kernel) (pa_cons (pv 0) (pa_cons (pe_bltn (v := V.ty "list") (u := Value.type "list") (by rfl) T.b_list (by decide +kernel) rfl) pa_nil))))) (pw_or1 (pt_cmp (pc_neI (pe_callB (call_lenLiK (K := K)) (by rfl) T.b_len (by decide +kernel) (pa_cons (pv 0) pa_nil)) (pv 1)))))) (pss_one (ps_ret pe_bl)) pss_nil)
      (pss_cons (ps_for (passes_of rfl) rfl (pi_listK (K := K) (pv 0)) (pg_name (i := 2) sc__law_is_integers.nd rfl (Or.inl rfl)) (pss_one (ps_if (PW.pt (pw_or (pt_not (pt_val (pe_callB call_isi (by rfl) T.b_isinstance (by decide +kernel) (pa_cons (pv 2) (pa_cons (pe_bltn (v := V.ty "int") (u := Value.type "int") (by rfl) T.b_int (by decide +kernel) rfl) pa_nil))))) (pw_or1 (pt_val (pe_callB call_isi (by rfl) T.b_isinstance (by decide +kernel) (pa_cons (pv 2) (pa_cons (pe_bltn (v := V.ty "bool") (u := Value.type "bool") (by rfl) T.b_bool (by decide +kernel) rfl) pa_nil))))))) (pss_one (ps_ret pe_bl)) pss_nil)))
      (pss_one (ps_ret pe_bl)))), ?_⟩
    obtain ⟨KK, EE, hK0, hE, hw⟩ := cW_gen hw
    have S0 := Sep.startG sG
    unfold F__law_is_integers at hw
    refine ⟨_, rfl, _, _, _, _, _, rfl, (.ty _), (.base (.lst (S0.bM _ _ q_actual))), rfl, _, rfl, ?_⟩
    refine iteF ?_
    refine ⟨_, rfl, _, _, rfl, (SqL.of (S0.bM _ _ q_actual)), _, rfl, _, _, rfl, rfl, _, rfl, ?_⟩
    refine iteN (fun c618 => ?_) (fun c618 => ?_)
    · have hw := cW_neg c618 hw
      have hw := cW_ok hw
      exact hK0 _ hw _ S0.b0
    · have hw := cW_pos c618 hw
      obtain ⟨K619, hK620, hw⟩ := cW_push hw
      refine ⟨_, rfl, _, rfl, ⟨_, (SqL.of (S0.bM _ _ q_actual))⟩, for_list (K := K) (a := a_actual) (xs := (actual' : List Int).map V.int) (fun i σ H' => ∃ (u621 : Option V) (G' : Hp), σ = [some (V.ref a_actual), some (V.int (count')), u621] ∧ Same G G' ∧ Sep [] H G G' H' [] ∧ cW (forR (List.drop i (actual')) () (fun s x => F__law_is_integers_b1   x)) K619 EE) ?_ ?_ ?_ ?_⟩
      · exact ⟨_, _, rfl, (Same.refl _), S0, hw⟩
      · intro i σ H622 _ hw
        obtain ⟨u621, G624, rfl, eG625, S623, hw⟩ := hw
        exact (SqL.of (S623.bM _ _ q_actual))
      · intro i x σ H626 hj hw
        obtain ⟨u621, G628, rfl, eG629, S627, hw⟩ := hw
        obtain ⟨x630, hx, rfl⟩ := map_get hj
        have hw := cW_forR hx hw
        have hw : cW (F__law_is_integers_b1   (x630)) _ EE := hw
        unfold F__law_is_integers_b1 at hw
        obtain ⟨K631, hK632, hw⟩ := cW_name hw
        refine ⟨_, rfl, _, _, _, _, _, rfl, (.ty _), (.base (.int _)), rfl, _, rfl, ?_⟩
        refine iteF ?_
        refine ⟨_, rfl, _, _, _, _, _, rfl, (.ty _), (.base (.int _)), rfl, _, rfl, ?_⟩
        refine iteF ?_
        have hw := cW_ok hw
        have hw := hK632 _ hw
        exact ⟨_, _, rfl, eG629, S627, hw⟩
      · intro σ H634 hw
        obtain ⟨u621, G636, rfl, eG637, S635, hw⟩ := hw
        have hw := cW_aftgo (hK620 _ (cW_forR0 (by rw [List.length_map]) hw))
        have hw : cW (F__law_is_integers_r1  ) _ EE := hw
        unfold F__law_is_integers_r1 at hw
        have hw := cW_ok hw
        exact hK0 _ hw _ S635.b0

abbrev N__law_is_square : List Str := ["actual", "size", "row", "item"]
theorem sc__law_is_square : FnScope N__law_is_square ["actual", "size"] (defScope s__law_is_square) := ⟨rfl, rfl, rfl, by decide +kernel, rfl, by decide +kernel, by decide +kernel⟩
theorem ok__law_is_square (D : DefX K mg "_law_is_square" s__law_is_square ["actual", "size"] pats__law_is_square) (T : Txt K mg AD)  : CalX P w K mg base 1 "_law_is_square" (sp__law_is_square K AD) pats__law_is_square := by
  refine D.ok sc__law_is_square (fun vs H Q E h => ?_) (fun f cdv A_ outer s H vs Q E hr h => ?_)
  · obtain ⟨G, v_actual, actual', size', rfl, _⟩ := h
    rfl
  · obtain ⟨G, v_actual, actual', size', rfl, sG, r_actual, hw⟩ := h
    refine ⟨_, (pss_cons (ps_if (PW.pt (pw_or (pt_not (pt_val (pe_callB call_isi (by rfl) T.b_isinstance (by decide +kernel) (pa_cons (pv 0) (pa_cons (pe_bltn (v := V.ty "list") (u := Value.type "list") (by rfl) T.b_list (by decide +kernel) rfl) pa_nil))))) (pw_or1 (pt_cmp (pc_neI (pe_callB (call_lenLK (K := K)) (by rfl) T.b_len (by decide +kernel) (pa_cons (pv 0) pa_nil)) (pv 1)))))) (pss_one (ps_ret pe_bl)) pss_nil)
      (pss_cons (ps_for (passes_of rfl) rfl (pi_listK (K := K) (pv 0)) (pg_name (i := 2) sc__law_is_square.nd rfl (Or.inl rfl)) (pss_cons (ps_if (PW.pt (pw_or (pt_not (pt_val (pe_callB call_isi (by rfl) T.b_isinstance (by decide +kernel) (pa_cons (pv 2) (pa_cons (pe_bltn (v := V.ty "list") (u := Value.type "list") (by rfl) T.b_list (by decide +kernel) rfl) pa_nil))))) (pw_or1 (pt_cmp (pc_neI (pe_callB (call_lenLiK (K := K)) (by rfl) T.b_len (by decide +kernel) (pa_cons (pv 2) pa_nil)) (pv 1)))))) (pss_one (ps_ret pe_bl)) pss_nil)
      (pss_one (ps_for (passes_of rfl) rfl (pi_listK (K := K) (pv 2)) (pg_name (i := 3) sc__law_is_square.nd rfl (Or.inl rfl)) (pss_one (ps_if (PW.pt (pw_or (pt_not (pt_val (pe_callB call_isi (by rfl) T.b_isinstance (by decide +kernel) (pa_cons (pv 3) (pa_cons (pe_bltn (v := V.ty "int") (u := Value.type "int") (by rfl) T.b_int (by decide +kernel) rfl) pa_nil))))) (pw_or1 (pt_val (pe_callB call_isi (by rfl) T.b_isinstance (by decide +kernel) (pa_cons (pv 3) (pa_cons (pe_bltn (v := V.ty "bool") (u := Value.type "bool") (by rfl) T.b_bool (by decide +kernel) rfl) pa_nil))))))) (pss_one (ps_ret pe_bl)) pss_nil))))))
      (pss_one (ps_ret pe_bl)))), ?_⟩
    obtain ⟨KK, EE, hK0, hE, hw⟩ := cW_gen hw
    have S0 := Sep.startG sG
    unfold F__law_is_square at hw
    obtain ⟨a638, vs639, rfl, h640, d641⟩ := rp_list r_actual
    refine ⟨_, rfl, _, _, _, _, _, rfl, (.ty _), (.base (.lst (S0.bM _ _ h640))), rfl, _, rfl, ?_⟩
    refine iteF ?_
    refine ⟨_, rfl, _, _, _, rfl, (SqL.of (S0.bM _ _ h640)), (by rw [d641.len, List.length_map]), _, rfl, _, _, rfl, rfl, _, rfl, ?_⟩
    refine iteN (fun c642 => ?_) (fun c642 => ?_)
    · have hw := cW_neg c642 hw
      have hw := cW_ok hw
      exact hK0 _ hw _ S0.b0
    · have hw := cW_pos c642 hw
      obtain ⟨K644, hK645, hw⟩ := cW_push hw
      refine ⟨_, rfl, _, rfl, ⟨_, (SqL.of (S0.bM _ _ h640))⟩, for_list (K := K) (a := a638) (xs := vs639) (fun i σ H' => ∃ (u646 : Option V) (u647 : Option V) (G' : Hp), σ = [some (V.ref a638), some (V.int (size')), u646, u647] ∧ Same G G' ∧ Sep [] H G G' H' [] ∧ cW (forR (List.drop i (actual')) () (fun s x => F__law_is_square_b1 (size')  x)) K644 EE) ?_ ?_ ?_ ?_⟩
      · exact ⟨_, _, _, rfl, (Same.refl _), S0, hw⟩
      · intro i σ H648 _ hw
        obtain ⟨u646, u647, G650, rfl, eG651, S649, hw⟩ := hw
        exact (SqL.of (S649.bM _ _ h640))
      · intro i x σ H652 hj hw
        obtain ⟨u646, u647, G654, rfl, eG655, S653, hw⟩ := hw
        obtain ⟨x656, hx, r657⟩ := RpAll.get d641 hj
        obtain ⟨a658, rfl, h659⟩ := rp_ints r657
        have hw := cW_forR hx hw
        have hw : cW (F__law_is_square_b1 (size')  (x656)) _ EE := hw
        unfold F__law_is_square_b1 at hw
        obtain ⟨K660, hK661, hw⟩ := cW_name hw
        refine ⟨_, rfl, _, _, _, _, _, rfl, (.ty _), (.base (.lst (S653.bM _ _ h659))), rfl, _, rfl, ?_⟩
        refine iteF ?_
        refine ⟨_, rfl, _, _, rfl, (SqL.of (S653.bM _ _ h659)), _, rfl, _, _, rfl, rfl, _, rfl, ?_⟩
        refine iteN (fun c663 => ?_) (fun c663 => ?_)
        · have hw := cW_neg c663 hw
          have hw := cW_ok hw
          have hw := hK661 (.rt _) hw
          have hw := hK645 (.rt _) hw
          have hw := cW_ok hw
          exact hK0 _ hw _ S653.b0
        · have hw := cW_pos c663 hw
          obtain ⟨K664, hK665, hw⟩ := cW_push hw
          refine ⟨_, rfl, _, rfl, ⟨_, (SqL.of (S653.bM _ _ h659))⟩, for_list (K := K) (a := a658) (xs := (x656 : List Int).map V.int) (fun i σ H' => ∃ (u666 : Option V) (G' : Hp), σ = [some (V.ref a638), some (V.int (size')), some (V.ref a658), u666] ∧ Same G654 G' ∧ Sep [] H G G' H' [] ∧ cW (forR (List.drop i (x656)) () (fun s x => F__law_is_square_b2   x)) K664 EE) ?_ ?_ ?_ ?_⟩
          · exact ⟨_, _, rfl, (Same.refl _), S653, hw⟩
          · intro i σ H667 _ hw
            obtain ⟨u666, G669, rfl, eG670, S668, hw⟩ := hw
            exact (SqL.of (S668.bM _ _ h659))
          · intro i x σ H671 hj hw
            obtain ⟨u666, G673, rfl, eG674, S672, hw⟩ := hw
            obtain ⟨x675, hx, rfl⟩ := map_get hj
            have hw := cW_forR hx hw
            have hw : cW (F__law_is_square_b2   (x675)) _ EE := hw
            unfold F__law_is_square_b2 at hw
            obtain ⟨K676, hK677, hw⟩ := cW_name hw
            refine ⟨_, rfl, _, _, _, _, _, rfl, (.ty _), (.base (.int _)), rfl, _, rfl, ?_⟩
            refine iteF ?_
            refine ⟨_, rfl, _, _, _, _, _, rfl, (.ty _), (.base (.int _)), rfl, _, rfl, ?_⟩
            refine iteF ?_
            have hw := cW_ok hw
            have hw := hK677 _ hw
            exact ⟨_, _, rfl, eG674, S672, hw⟩
          · intro σ H679 hw
            obtain ⟨u666, G681, rfl, eG682, S680, hw⟩ := hw
            have hw := cW_aftgo (hK665 _ (cW_forR0 (by rw [List.length_map]) hw))
            have hw : cW (F__law_is_square_r2  ) _ EE := hw
            unfold F__law_is_square_r2 at hw
            have hw := cW_ok hw
            have hw := hK661 _ hw
            exact ⟨_, _, _, rfl, (Same.trans eG655 eG682), S680, hw⟩
      · intro σ H683 hw
        obtain ⟨u646, u647, G685, rfl, eG686, S684, hw⟩ := hw
        have hw := cW_aftgo (hK645 _ (cW_forR0 (by rw [d641.len, List.length_map]) hw))
        have hw : cW (F__law_is_square_r1  ) _ EE := hw
        unfold F__law_is_square_r1 at hw
        have hw := cW_ok hw
        exact hK0 _ hw _ S684.b0

abbrev N__law_refused : List Str := ["size", "count", "rows", "told"]
theorem sc__law_refused : FnScope N__law_refused ["size", "count", "rows"] (defScope s__law_refused) := ⟨rfl, rfl, rfl, by decide +kernel, rfl, by decide +kernel, by decide +kernel⟩
theorem ok__law_refused (D : DefX K mg "_law_refused" s__law_refused ["size", "count", "rows"] pats__law_refused) (T : Txt K mg AD) (c_scan_order : CalX P w K mg base 2 "scan_order" (sp_scan_order K AD) pats_scan_order) (c_to_square : CalX P w K mg base 3 "to_square" (sp_to_square K AD) pats_to_square) (c_to_levels : CalX P w K mg base 3 "to_levels" (sp_to_levels K AD) pats_to_levels) : CalX P w K mg base 4 "_law_refused" (sp__law_refused K AD) pats__law_refused := by
  refine D.ok sc__law_refused (fun vs H Q E h => ?_) (fun f cdv A_ outer s H vs Q E hr h => ?_)
  · obtain ⟨G, size', count', v_rows, rows', rfl, _⟩ := h
    rfl
  · obtain ⟨G, size', count', v_rows, rows', rfl, sG, r_rows, hw⟩ := h
    refine ⟨_, (pss_cons (ps_set (i := 3) sc__law_refused.nd rfl (Or.inl rfl) pe_int)
      (C8.pss_cut (ps_try_only rfl rfl ⟨rfl, by decide, .inl T.xg_OutOfRange⟩ (takes_of rfl rfl rfl rfl) (fun W pn xe tk pse => (pss_one (ps_expr (vx_callX c_scan_order pat_scan_order_0 (.head _) hr (by decide) tk rfl (pa_cons (pv 0) pa_nil) pk_nil)))) (fun a oe cls d pn _ _ => (pss_one (ps_aug (i := 3) sc__law_refused.nd rfl (Or.inl rfl) pe_int (pip iop_add)))))
      (C8.pss_cut (ps_try_only rfl rfl ⟨rfl, by decide, .inl T.xg_OutOfRange⟩ (takes_of rfl rfl rfl rfl) (fun W pn xe tk pse => (pss_one (ps_expr (vx_callX c_to_square pat_to_square_0 (.head _) hr (by decide) tk rfl (pa_cons (pe_op op_rep (pe_lst (pa_cons pe_int pa_nil)) (pv 1)) pa_nil) pk_nil)))) (fun a oe cls d pn _ _ => (pss_one (ps_aug (i := 3) sc__law_refused.nd rfl (Or.inl rfl) pe_int (pip iop_add)))))
      (C8.pss_cut (ps_try_only rfl rfl ⟨rfl, by decide, .inl T.xg_OutOfRange⟩ (takes_of rfl rfl rfl rfl) (fun W pn xe tk pse => (pss_one (ps_expr (vx_callX c_to_levels pat_to_levels_0 (.head _) hr (by decide) tk rfl (pa_cons (pv 2) pa_nil) pk_nil)))) (fun a oe cls d pn _ _ => (pss_one (ps_aug (i := 3) sc__law_refused.nd rfl (Or.inl rfl) pe_int (pip iop_add)))))
      (pss_one (ps_ret (pe_cmp (pc_eqI (pv 3) pe_int)))))))), ?_⟩
    obtain ⟨KK, EE, hK0, hE, hw⟩ := cW_gen hw
    have S0 := Sep.startG sG
    unfold F__law_refused at hw
    obtain ⟨a687, vs688, rfl, h689, d690⟩ := rp_list r_rows
    refine ⟨fun σ H' => ∃ (told_694 : Int) (G' : Hp), σ = [some (V.int (size')), some (V.int (count')), some (V.ref a687), some (V.int told_694)] ∧ Same G G' ∧ Sep [] H G G' H' [] ∧ cW (F__law_refused_k1 (count') (rows') told_694) KK EE, ?_, ?_⟩
    · obtain ⟨K695, hK696, hw⟩ := cW_push hw
      refine ⟨_, rfl, rfl, rfl, G, _, rfl, S0.sG, cW_try hw (fun v697 hw p700 vs701 H698 G702 n703 e699 eG704 sG705 hn706 gp707 h708 d709 => ?_) ?_⟩
      · have fr711 := S0.free n703
        have S710 := S0.stepnew e699 eG704 sG705 hn706 n703 h708 gp707 fr711
        have hw := cW_ok hw
        have hw := hK696 _ hw
        exact ⟨(0), _, rfl, eG704, (S710.sub all_nil), hw⟩
      · intro e hm hw H712 e713
        have S714 := S0.same e713
        obtain rfl := mem_one hm
        refine ⟨true, T.xm_OutOfRange_OutOfRange, fun _ _ _ => ?_, fun q => nomatch q⟩
        refine ⟨_, rfl, _, _, rfl, rfl, ?_⟩
        have hw := cW_bnd hw
        have hw := cW_ok hw
        have hw := hK696 _ hw
        exact ⟨((0 + 1)), _, rfl, (Same.refl _), S714, hw⟩
    · intro σ H716 hw
      obtain ⟨told_694, G718, rfl, eG719, S717, hw⟩ := hw
      unfold F__law_refused_k1 at hw
      refine ⟨fun σ H' => ∃ (told_722 : Int) (G' : Hp), σ = [some (V.int (size')), some (V.int (count')), some (V.ref a687), some (V.int told_722)] ∧ Same G718 G' ∧ Sep [] H G G' H' [] ∧ cW (F__law_refused_k2 (rows') told_722) KK EE, ?_, ?_⟩
      · obtain ⟨K723, hK724, hw⟩ := cW_push hw
        refine ⟨(by show 1 ≤ sizeLine; decide), fun p725 n726 => ?_⟩
        generalize g727 : upd H716 p725 _ = H728
        obtain ⟨e729, h730⟩ := gen_new n726 g727
        have h731 : H728 p725 = some (.lst (([0] : (List Int)).map V.int)) := h730
        have fr732 := S717.free n726
        have S733 := S717.new n726 e729 h731 fr732
        obtain ⟨g734, hw⟩ := cW_grd hw
        refine ⟨_, rfl, _, _, _, rfl, rfl, h731, g734.1, g734.2.1, (rep_lenM g734.2.2), fun p735 n736 => ?_⟩
        generalize g737 : upd H728 p735 _ = H738
        obtain ⟨e739, h740⟩ := gen_new n736 g737
        have h741 : H738 p735 = some (.lst ((repL ([0]) (count') : (List Int)).map V.int)) := rep_map h740
        have fr742 := S733.free n736
        have S743 := S733.new n736 e739 h741 fr742
        refine ⟨rfl, rfl, G718, _, _, rfl, S743.sG, (hide_nil h741), cW_try hw (fun v744 hw H745 a747 vs748 L749 G750 n751 nb752 nd753 e746 eG754 sG755 hn756 ga757 gL758 h759 w760 => ?_) ?_⟩
        · have fr761 := S743.free n751
          have S762 : Sep _ _ _ _ H745 (a747 :: (L749 ++ (p735 :: (p725 :: [])))) := Sep.steptree S743 e746 eG754 sG755 hn756 (a747 :: L749) (all_cons ⟨n751, ga757, some_ne h759⟩ (fun b hb => ⟨nb752 b hb, gL758 b hb, OwAll.there w760 b hb⟩))
          have hw := cW_ok hw
          have hw := hK724 _ hw
          exact ⟨(told_694), _, rfl, eG754, (S762.sub all_nil), hw⟩
        · intro e hm hw H763 e764
          have S765 := S743.same e764
          obtain rfl := mem_one hm
          refine ⟨true, T.xm_OutOfRange_OutOfRange, fun _ _ _ => ?_, fun q => nomatch q⟩
          refine ⟨_, rfl, _, _, rfl, rfl, ?_⟩
          have hw := cW_bnd hw
          have hw := cW_ok hw
          have hw := hK724 _ hw
          exact ⟨((told_694 + 1)), _, rfl, (Same.refl _), (S765.sub all_nil), hw⟩
      · intro σ H767 hw
        obtain ⟨told_722, G769, rfl, eG770, S768, hw⟩ := hw
        unfold F__law_refused_k2 at hw
        refine ⟨fun σ H' => ∃ (told_772 : Int) (G' : Hp), σ = [some (V.int (size')), some (V.int (count')), some (V.ref a687), some (V.int told_772)] ∧ Same G769 G' ∧ Sep [] H G G' H' [] ∧ cW (F__law_refused_k3  told_772) KK EE, ?_, ?_⟩
        · obtain ⟨K773, hK774, hw⟩ := cW_push hw
          refine ⟨_, rfl, rfl, rfl, G769, _, _, rfl, S768.sG, (Rp.hide_nil (rp_mk_list (S768.bM _ _ h689) (RpAll.mono S768.bM d690))), cW_try hw (fun v775 hw p778 H776 n779 e777 h780 => ?_) ?_⟩
          · have h781 : H776 p778 = some (.lst ((v775 : (List Int)).map V.int)) := h780
            have fr782 := S768.free n779
            have S783 := S768.new n779 e777 h781 fr782
            have hw := cW_ok hw
            have hw := hK774 _ hw
            exact ⟨(told_722), _, rfl, (Same.refl _), (S783.sub all_nil), hw⟩
          · intro e hm hw H784 e785
            have S786 := S768.same e785
            obtain rfl := mem_one hm
            refine ⟨true, T.xm_OutOfRange_OutOfRange, fun _ _ _ => ?_, fun q => nomatch q⟩
            refine ⟨_, rfl, _, _, rfl, rfl, ?_⟩
            have hw := cW_bnd hw
            have hw := cW_ok hw
            have hw := hK774 _ hw
            exact ⟨((told_722 + 1)), _, rfl, (Same.refl _), S786, hw⟩
        · intro σ H788 hw
          obtain ⟨told_772, G790, rfl, eG791, S789, hw⟩ := hw
          unfold F__law_refused_k3 at hw
          refine ⟨_, rfl, _, _, rfl, rfl, ?_⟩
          have hw := cW_ok hw
          exact hK0 _ hw _ S789.b0

abbrev N_law : List Str := ["script", "k", "cell", "size", "places", "order", "digits", "rows", "kept", "levels", "told", "back", "wrong", "count", "bad", "j", "i", "place", "row"]
theorem sc_law : FnScope N_law ["script"] (defScope s_law) := ⟨rfl, rfl, rfl, by decide +kernel, rfl, by decide +kernel, by decide +kernel⟩
theorem ok_law {f : Addr} {fd : FuncData} (F : FunD K "law" "law" (defArgs s_law) (defBody s_law) (defScope s_law) [] [] f fd) (T : Txt K mg AD) (c__law_cell : CalX P w K mg base 1 "_law_cell" (sp__law_cell K AD) pats__law_cell) (c__law_order : CalX P w K mg base 1 "_law_order" (sp__law_order K AD) pats__law_order) (c_scan_order : CalX P w K mg base 2 "scan_order" (sp_scan_order K AD) pats_scan_order) (c__law_digits : CalX P w K mg base 1 "_law_digits" (sp__law_digits K AD) pats__law_digits) (c_to_levels : CalX P w K mg base 3 "to_levels" (sp_to_levels K AD) pats_to_levels) (c__law_is_integers : CalX P w K mg base 1 "_law_is_integers" (sp__law_is_integers K AD) pats__law_is_integers) (c_to_square : CalX P w K mg base 3 "to_square" (sp_to_square K AD) pats_to_square) (c__law_is_square : CalX P w K mg base 1 "_law_is_square" (sp__law_is_square K AD) pats__law_is_square) (c__law_refused : CalX P w K mg base 4 "_law_refused" (sp__law_refused K AD) pats__law_refused) : FnG P w K mg base CX0 5 f fd ["script"] (sp_law K AD) := by
  refine FnG.bodyN F sc_law (fun vs H Q E h => ?_) (fun cdv A_ outer s H vs Q E hr h => ?_)
  · obtain ⟨a_script, script, rfl, _⟩ := h
    rfl
  · obtain ⟨a_script, script', rfl, q_script, hw, k⟩ := h
    refine ⟨_, (pss_cons (ps_for PassesOwn.never rfl (pi_range1 rfl T.b_range (pa_cons (pe_callB (call_min2 rfl) (by rfl) T.b_min (by decide +kernel) (pa_cons (pe_op op_add pe_int (pe_callB (call_lenLiK (K := K)) (by rfl) T.b_len (by decide +kernel) (pa_cons (pv 0) pa_nil))) (pa_cons pe_int pa_nil))) pa_nil)) (pg_name (i := 1) sc_law.nd rfl (Or.inl rfl)) (pss_cons (ps_set (i := 2) sc_law.nd rfl (Or.inl rfl) (pe_op op_add (vx_callX c__law_cell pat__law_cell_0 (.head _) hr (by decide) takes0 rfl (pa_cons (pv 0) (pa_cons (pv 1) pa_nil)) pk_nil) (pv 1)))
      (pss_cons (ps_set (i := 3) sc_law.nd rfl (Or.inr rfl) (pe_op op_add pe_int (pe_op op_mul pe_int (pe_op op_mod (pv 2) pe_int))))
      (pss_cons (ps_set (i := 4) sc_law.nd rfl (Or.inl rfl) (vx_callX c__law_order pat__law_order_0 (.head _) hr (by decide) takes0 rfl (pa_cons (pv 3) pa_nil) pk_nil))
      (pss_cons (ps_set (i := 5) sc_law.nd rfl (Or.inl rfl) (vx_callX c_scan_order pat_scan_order_0 (.head _) hr (by decide) takes0 rfl (pa_cons (pv 3) pa_nil) pk_nil))
      (pss_cons (ps_if (PW.pt (pw_or (pt_not (pt_val (pe_callB call_isi (by rfl) T.b_isinstance (by decide +kernel) (pa_cons (pv 5) (pa_cons (pe_bltn (v := V.ty "list") (u := Value.type "list") (by rfl) T.b_list (by decide +kernel) rfl) pa_nil))))) (pw_or1 (pt_cmpR (op_neT (encOk_L (encOk_T2 encOk_int encOk_int)) hr.units) (pv 5) (pv 4) (nomark _))))) (pss_one (ps_ret pe_bl)) pss_nil)
      (pss_cons (ps_expr (pe_bm PySem.F.plainAttrs_list PySem.F.slot_list_append PySem.F.type_list_append mt_append (pv 5) (pa_cons (pe_tup (pa_cons pe_int (pa_cons pe_int pa_nil))) pa_nil)))
      (pss_cons (ps_if (pt_cmpR (op_neT (encOk_L (encOk_T2 encOk_int encOk_int)) hr.units) (vx_callX c_scan_order pat_scan_order_0 (.head _) hr (by decide) takes0 rfl (pa_cons (pv 3) pa_nil) pk_nil) (pv 4) (nomark _)) (pss_one (ps_ret pe_bl)) pss_nil)
      (pss_cons (ps_set (i := 6) sc_law.nd rfl (Or.inr rfl) (vx_callX c__law_digits pat__law_digits_0 (.head _) hr (by decide) takes0 rfl (pa_cons (pv 2) (pa_cons pe_int (pa_cons (pe_op op_mul (pv 3) (pv 3)) pa_nil))) pk_nil))
      (C8.pss_cut (ps_if (pt_cmp (pc_eqI (pe_op op_mod (pe_op op_fdivW (pv 2) pe_int) pe_int) pe_int)) (pss_one (ps_set (i := 6) sc_law.nd rfl (Or.inr rfl) (pe_lc (own := [("k", 1)]) (g := gName 1) (by rfl) sc_law.nd (pi_range1 rfl T.b_range (pa_cons (pe_op op_mul (pv 3) (pv 3)) pa_nil)) (blkOk_by (own := [("k", 1)]) (N := N_law) (sc := defScope s_law) (by decide +kernel)) (fun _ _ _ _ _ => (pg_name (i := 1) sc_law.nd rfl (Or.inl rfl))) (fun _ _ _ _ _ => pts_nil) (fun _ _ _ _ _ => (pe_op op_sub (pe_op op_mul pe_int (pv 1)) pe_int))))) pss_nil)
      (pss_cons (ps_set (i := 7) sc_law.nd rfl (Or.inr rfl) (pe_lc (own := [("j", 15)]) (g := gName 15) (by rfl) sc_law.nd (pi_range1 rfl T.b_range (pa_cons (pv 3) pa_nil)) (blkOk_by (own := [("j", 15)]) (N := N_law) (sc := defScope s_law) (by decide +kernel)) (fun _ _ _ _ _ => (pg_name (i := 15) sc_law.nd rfl (Or.inr rfl))) (fun _ _ _ _ _ => pts_nil) (fun _ _ _ _ _ => (pe_lc (own := [("i", 16)]) (g := gName 16) (by rfl) sc_law.nd (pi_range1 rfl T.b_range (pa_cons (pv 3) pa_nil)) (blk_relabel (blkOk_by (own := [("i", 16)]) (N := N_law) (by decide +kernel))) (fun _ _ _ _ _ => (pg_name (i := 16) sc_law.nd rfl (Or.inl rfl))) (fun _ _ _ _ _ => pts_nil) (fun _ _ _ _ _ => (pe_op op_sub (pe_ix (ix_listK (K := K)) (pv 6) (pe_op op_add (pe_op op_mul (pv 15) (pv 3)) (pv 16)) (fun _ _ => rfl)) pe_int))))))
      (pss_cons (ps_set (i := 8) sc_law.nd rfl (Or.inl rfl) (pe_callB (call_reprD hr.gd hr.units) (by rfl) T.b_repr (by decide +kernel) (pa_cons (pv 7) pa_nil)))
      (pss_cons (ps_set (i := 9) sc_law.nd rfl (Or.inl rfl) (vx_callX c_to_levels pat_to_levels_0 (.head _) hr (by decide) takes0 rfl (pa_cons (pv 7) pa_nil) pk_nil))
      (pss_cons (ps_if (PW.pt (pw_or (pt_not (pt_val (vx_callX c__law_is_integers pat__law_is_integers_0 (.head _) hr (by decide) takes0 rfl (pa_cons (pv 9) (pa_cons (pe_op op_mul (pv 3) (pv 3)) pa_nil)) pk_nil))) (pw_or1 (pt_cmpR op_ne (pe_callB (call_reprD hr.gd hr.units) (by rfl) T.b_repr (by decide +kernel) (pa_cons (pv 7) pa_nil)) (pv 8) (nomark _))))) (pss_one (ps_ret pe_bl)) pss_nil)
      (pss_cons (ps_if (pt_cmpR (op_neT (encOk_L encOk_int) hr.units) (pv 9) (pe_lc (own := [("place", 17)]) (g := gName 17) (by rfl) sc_law.nd (pi_listK (K := K) (pv 4)) (blkOk_by (own := [("place", 17)]) (N := N_law) (sc := defScope s_law) (by decide +kernel)) (fun _ _ _ _ _ => (pg_name (i := 17) sc_law.nd rfl (Or.inl rfl))) (fun _ _ _ _ _ => pts_nil) (fun _ _ _ _ _ => (pe_ix (ix_listK (K := K)) (pe_ix (ix_listK (K := K)) (pv 7) (pe_ix (ix_tupK (K := K)) (pv 17) pe_int (fun _ _ => rfl)) (fun _ _ => rfl)) (pe_ix (ix_tupK (K := K)) (pv 17) pe_int (fun _ _ => rfl)) (fun _ _ => rfl)))) (nomark _)) (pss_one (ps_ret pe_bl)) pss_nil)
      (pss_cons (ps_set (i := 10) sc_law.nd rfl (Or.inl rfl) (pe_callTy (call_listLK (K := K)) (by rfl) T.b_list (by decide +kernel) (pa_cons (pv 9) pa_nil)))
      (pss_cons (ps_set (i := 11) sc_law.nd rfl (Or.inl rfl) (vx_callX c_to_square pat_to_square_0 (.head _) hr (by decide) takes0 rfl (pa_cons (pv 9) pa_nil) pk_nil))
      (pss_cons (ps_if (PW.pt (pw_or (pt_not (pt_val (vx_callX c__law_is_square pat__law_is_square_0 (.head _) hr (by decide) takes0 rfl (pa_cons (pv 11) (pa_cons (pv 3) pa_nil)) pk_nil))) (pw_or (pt_cmpR (op_neT (encOk_L (encOk_L encOk_int)) hr.units) (pv 11) (pv 7) (nomark _)) (pw_or1 (pt_cmpR (op_neT (encOk_L encOk_int) hr.units) (pv 9) (pv 10) (nomark _)))))) (pss_one (ps_ret pe_bl)) pss_nil)
      (pss_cons (ps_set (i := 12) sc_law.nd rfl (Or.inr rfl) (pe_op op_mod (pe_op op_fdivW (pv 2) pe_int) pe_int))
      (pss_cons (ps_set (i := 13) sc_law.nd rfl (Or.inl rfl) (pe_op op_mod (pe_op op_fdivW (pv 2) pe_int) pe_int))
      (C8.pss_cut (ps_if (PW.pt (pw_or (pt_cmp (pc_eqI (pv 12) pe_int)) (pw_or1 (pt_cmp (pc_eqI (pv 12) pe_int))))) (pss_one (ps_set (i := 12) sc_law.nd rfl (Or.inr rfl) pe_int)) pss_nil)
      (C8.pss_cut (ps_if (PW.pt (pw_or (pt_cmp (pc_eqI (pv 13) pe_int)) (pw_or1 (pt_cmp (pc_eqI (pv 13) pe_int))))) (pss_one (ps_set (i := 13) sc_law.nd rfl (Or.inl rfl) pe_int)) pss_nil)
      (pss_cons (ps_setLc (i := 14) (y := "bad") rfl sc_law.nd rfl rfl (sw_true rfl rfl rfl (by decide +kernel)) (own := [("row", 18)]) (g := gName 18) (pi_listK (K := K) (pv 7)) (blkOk_by (own := [("row", 18)]) (N := N_law) (sc := defScope s_law) (by decide +kernel)) (fun _ _ _ _ _ => (pg_name (i := 18) sc_law.nd rfl (Or.inl rfl))) (fun _ _ _ _ _ => pts_nil) (fun _ _ _ _ _ => (pe_callTy (call_listLK (K := K)) (by rfl) T.b_list (by decide +kernel) (pa_cons (pv 18) pa_nil))))
      (C8.pss_cut (ps_if (pt_cmp (pc_eqI (pe_op op_mod (pe_op op_fdivW (pv 2) pe_int) pe_int) pe_int)) (pss_one (ps_expr (pe_bm PySem.F.plainAttrs_list PySem.F.slot_list_append PySem.F.type_list_append mt_append (pv 14) (pa_cons (pe_op op_rep (pe_lst (pa_cons pe_int pa_nil)) (pv 3)) pa_nil)))) (pss_one (ps_if (pt_cmp (pc_eqI (pe_op op_mod (pe_op op_fdivW (pv 2) pe_int) pe_int) pe_int)) (pss_one (ps_expr (pe_bm PySem.F.plainAttrs_list PySem.F.slot_list_append PySem.F.type_list_append mt_append (pe_ix (ix_listK (K := K)) (pv 14) (pe_op op_mod (pe_op op_fdivW (pv 2) pe_int) (pv 3)) (fun _ _ => rfl)) (pa_cons pe_int pa_nil)))) (pss_one (ps_asg (pe_slice (sl_listK (K := K)) (pe_ix (ix_listK (K := K)) (pv 14) (pe_op op_mod (pe_op op_fdivW (pv 2) pe_int) (pv 3)) (fun _ _ => rfl)) (po_some pe_int) po_none) (pg_sub (pv 14) (pe_op op_mod (pe_op op_fdivW (pv 2) pe_int) (pv 3)) set_list))))))
      (pss_cons (ps_if (PW.pt (pw_or (pt_not (pt_val (vx_callX c__law_refused pat__law_refused_0 (.head _) hr (by decide) takes0 rfl (pa_cons (pv 12) (pa_cons (pv 13) (pa_cons (pe_lc (own := [("j", 15)]) (g := gName 15) (by rfl) sc_law.nd (pi_range1 rfl T.b_range (pa_cons (pv 12) pa_nil)) (blkOk_by (own := [("j", 15)]) (N := N_law) (sc := defScope s_law) (by decide +kernel)) (fun _ _ _ _ _ => (pg_name (i := 15) sc_law.nd rfl (Or.inl rfl))) (fun _ _ _ _ _ => pts_nil) (fun _ _ _ _ _ => (pe_op op_rep (pe_lst (pa_cons pe_int pa_nil)) (pv 12)))) pa_nil))) pk_nil))) (pw_or1 (pt_not (pt_val (vx_callX c__law_refused pat__law_refused_0 (.head _) hr (by decide) takes0 rfl (pa_cons pe_int (pa_cons pe_int (pa_cons (pv 14) pa_nil))) pk_nil)))))) (pss_one (ps_ret pe_bl)) pss_nil)
      (pss_cons (ps_setLc (i := 14) (y := "bad") rfl sc_law.nd rfl rfl (sw_true rfl rfl rfl (by decide +kernel)) (own := [("row", 18)]) (g := gName 18) (pi_listK (K := K) (pv 7)) (blkOk_by (own := [("row", 18)]) (N := N_law) (sc := defScope s_law) (by decide +kernel)) (fun _ _ _ _ _ => (pg_name (i := 18) sc_law.nd rfl (Or.inl rfl))) (fun _ _ _ _ _ => pts_nil) (fun _ _ _ _ _ => (pe_callTy (call_listLK (K := K)) (by rfl) T.b_list (by decide +kernel) (pa_cons (pv 18) pa_nil))))
      (pss_cons (ps_asg (pe_op op_rep (pe_lst (pa_cons pe_int pa_nil)) (pe_op op_sub pe_int (pv 3))) (pg_sub (pv 14) (pe_op op_mod (pe_op op_fdivW (pv 2) pe_int) (pv 3)) set_list))
      (pss_one (ps_if (PW.pt (pw_or (pt_not (pt_val (vx_callX c__law_refused pat__law_refused_0 (.head _) hr (by decide) takes0 rfl (pa_cons pe_int (pa_cons pe_int (pa_cons (pv 14) pa_nil))) pk_nil))) (pw_or1 (pt_not (pt_val (vx_callX c__law_refused pat__law_refused_0 (.head _) hr (by decide) takes0 rfl (pa_cons pe_int (pa_cons pe_int (pa_cons (pe_lc (own := [("j", 15)]) (g := gName 15) (by rfl) sc_law.nd (pi_range1 rfl T.b_range (pa_cons (pv 3) pa_nil)) (blkOk_by (own := [("j", 15)]) (N := N_law) (sc := defScope s_law) (by decide +kernel)) (fun _ _ _ _ _ => (pg_name (i := 15) sc_law.nd rfl (Or.inl rfl))) (fun _ _ _ _ _ => pts_nil) (fun _ _ _ _ _ => (pe_op op_rep (pe_lst (pa_cons pe_int pa_nil)) (pe_op op_sub pe_int (pv 3))))) pa_nil))) pk_nil)))))) (pss_one (ps_ret pe_bl)) pss_nil)))))))))))))))))))))))))))))
      (pss_one (ps_ret pe_bl))), ?_⟩
    obtain ⟨KK, EE, hK0, hE, hw⟩ := cW_gen hw
    have S0 := Sep.start0 H
    unfold F_law at hw
    obtain ⟨g792, hw⟩ := cW_grd hw
    obtain ⟨K794, hK795, hw⟩ := cW_push hw
    refine ⟨_, rfl, _, _, rfl, (S0.b0.seq q_script), _, _, rfl, rfl, _, _, rfl, _, rfl, g792.1, g792.2, for_range (lo := 0) (n := Int.toNat ((if 8 < (1 + (((script') : (List Int)).length : Int)) then 8 else (1 + (((script') : (List Int)).length : Int))))) (fun i σ H' => ∃ (u796 : Option V) (u797 : Option V) (u798 : Option V) (u799 : Option V) (u800 : Option V) (u801 : Option V) (u802 : Option V) (u803 : Option V) (u804 : Option V) (u805 : Option V) (u806 : Option V) (u807 : Option V) (u808 : Option V) (u809 : Option V) (G' : Hp), σ = [some (V.ref a_script), u796, u797, u798, u799, u800, u801, u802, u803, u804, u805, u806, u807, u808, u809, none, none, none, none] ∧ Same H G' ∧ Sep [] H H G' H' [] ∧ cW (forR (List.drop i (rng (0) (Int.toNat ((if 8 < (1 + (((script') : (List Int)).length : Int)) then 8 else (1 + (((script') : (List Int)).length : Int))))))) () (fun s x => F_law_b1 (script')  x)) K794 EE) ?_ ?_ ?_⟩
    · exact ⟨_, _, _, _, _, _, _, _, _, _, _, _, _, _, _, rfl, (Same.refl _), S0, hw⟩
    · intro i σ H810 hi hw
      obtain ⟨u796, u797, u798, u799, u800, u801, u802, u803, u804, u805, u806, u807, u808, u809, G812, rfl, eG813, S811, hw⟩ := hw
      have hw := cW_forR (rng_get hi) hw
      generalize (0 + (i : Int)) = x814 at hw ⊢
      have hw : cW (F_law_b1 (script')  (x814)) _ EE := hw
      unfold F_law_b1 at hw
      obtain ⟨K815, hK816, hw⟩ := cW_name hw
      refine ⟨_, rfl, _, rfl, rfl, rfl, G812, _, _, _, rfl, S811.sG, (S811.b0.seq q_script), cW_call hw (fun v818 hw => ?_) (fun e he => (hE e he).elim)⟩
      refine ⟨_, rfl, _, _, rfl, rfl, ?_⟩
      have hw := cW_bnd hw
      refine ⟨_, rfl, _, _, rfl, rfl, (show (0 : Int) < 2 by decide), _, _, rfl, rfl, (.inl ⟨by decide, by decide⟩), _, _, rfl, rfl, ?_⟩
      have hw := cW_bnd hw
      refine ⟨_, rfl, rfl, rfl, G812, _, rfl, S811.sG, cW_call hw (fun v821 hw v824 H822 G825 e823 eG826 sG827 hn828 r829 => ?_) (fun e he => (hE e he).elim)⟩
      have S830 := S811.step e823 eG826 sG827 hn828
      obtain ⟨a831, vs832, rfl, h833, d834⟩ := rp_list r829
      refine ⟨_, rfl, rfl, rfl, G825, _, rfl, S830.sG, cW_call hw (fun v835 hw p838 vs839 H836 G840 n841 e837 eG842 sG843 hn844 gp845 h846 d847 => ?_) (fun e he => (hE e he).elim)⟩
      have fr849 := S830.free n841
      have S848 := S830.stepnew e837 eG842 sG843 hn844 n841 h846 gp845 fr849
      refine ⟨_, rfl, _, _, _, _, _, rfl, (.ty _), (.base (.lst h846)), rfl, _, rfl, ?_⟩
      refine iteF ?_
      refine ⟨_, rfl, _, rfl, _, _, (rp_mk_list h846 (RpAll.mono S848.sG d847)), (rp_mk_list (S848.sG _ _ (eG842 _ _ h833)) (RpAll.mono S848.sG (RpAll.mono eG842 d834))), _, rfl, ?_⟩
      refine iteN (fun c850 => ?_) (fun c850 => ?_)
      · have hw := cW_neg c850 hw
        have hw := cW_ok hw
        have hw := hK816 (.rt _) hw
        have hw := hK795 (.rt _) hw
        have hw := cW_ok hw
        exact eq_bl (k _) (hK0 _ hw).symm
      · have hw := cW_pos c850 hw
        refine ⟨_, rfl, (.inl ⟨rfl, _, SqL.of h846⟩), (by show 2 ≤ sizeLine; decide), fun p851 n852 => ?_⟩
        generalize g853 : upd H836 p851 _ = H854
        obtain ⟨e855, h856⟩ := gen_new n852 g853
        have h857 : H854 p851 = some (.tup [V.int (0), V.int (0)]) := h856
        have fr858 := S848.free n852
        obtain ⟨G860, eG861, hg862, S859⟩ := S848.grow n852 e855 h857 fr858
        obtain ⟨g863, hw⟩ := cW_grd hw
        have h864 := (e855 _ _ h846)
        refine ⟨_, _, _, rfl, rfl, h864, (app_len (RpAll.mono eG861 d847) g863), ?_⟩
        generalize g865 : upd H854 p838 _ = H866
        obtain ⟨x867, h868⟩ := gen_mut g865
        have h869 : H866 p838 = some (.lst (vs839 ++ [V.ref p851])) := h868
        have S870 := S859.mut1 x867 (.head _) h869
        have d871 : RpAll G860 (vs839 ++ [V.ref p851]) (((v835) ++ [(0, 0)] : (List (Int × Int))).map (encT2 PyData.int PyData.int)) := app_map (RpAll.mono eG861 d847) (RpAll.one (rp_mk2 hg862 (.int _) (.int _)))
        have hw := cW_bnd hw
        refine ⟨_, rfl, rfl, rfl, G860, _, rfl, S870.sG, cW_call hw (fun v873 hw p876 vs877 H874 G878 n879 e875 eG880 sG881 hn882 gp883 h884 d885 => ?_) (fun e he => (hE e he).elim)⟩
        have fr887 := S870.free n879
        have S886 := S870.stepnew e875 eG880 sG881 hn882 n879 h884 gp883 fr887
        refine ⟨_, rfl, _, _, (rp_mk_list h884 (RpAll.mono S886.sG d885)), (rp_mk_list (S886.sG _ _ (eG880 _ _ (eG861 _ _ (eG842 _ _ h833)))) (RpAll.mono S886.sG (RpAll.mono eG880 (RpAll.mono eG861 (RpAll.mono eG842 d834))))), _, rfl, ?_⟩
        refine iteN (fun c888 => ?_) (fun c888 => ?_)
        · have hw := cW_neg c888 hw
          have hw := cW_ok hw
          have hw := hK816 (.rt _) hw
          have hw := hK795 (.rt _) hw
          have hw := cW_ok hw
          exact eq_bl (k _) (hK0 _ hw).symm
        · have hw := cW_pos c888 hw
          obtain ⟨g889, hw⟩ := cW_grd hw
          refine ⟨_, rfl, _, rfl, _, rfl, _, _, rfl, rfl, g889, rfl, rfl, G878, _, _, _, rfl, S886.sG, cW_call hw (fun v890 hw p893 H891 n894 e892 h895 => ?_) (fun e he => (hE e he).elim)⟩
          have h896 : H891 p893 = some (.lst ((v890 : (List Int)).map V.int)) := h895
          have fr897 := S886.free n894
          have S898 := S886.new n894 e892 h896 fr897
          refine ⟨fun σ H' => ∃ (p904 : Addr) (digits_903 : (List Int)) (G' : Hp), σ = [some (V.ref a_script), some (V.int (x814)), some (V.int ((v818 + x814))), some (V.int ((4 + (4 * ((v818 + x814) % 2))))), some (V.ref a831), some (V.ref p838), some (V.ref p904), u802, u803, u804, u805, u806, u807, u808, u809, none, none, none, none] ∧ Same G878 G' ∧ Sep [] H H G' H' [p838, p904] ∧ H' p838 = some (.lst (vs839 ++ [V.ref p851])) ∧ H' p904 = some (.lst ((digits_903 : (List Int)).map V.int)) ∧ H p904 = none ∧ p904 ≠ p838 ∧ cW (F_law_k2 ((v818 + x814)) ((4 + (4 * ((v818 + x814) % 2)))) (v821) digits_903) K815 EE, ?_, ?_⟩
          · obtain ⟨K905, hK906, hw⟩ := cW_push hw
            refine ⟨_, rfl, _, _, rfl, rfl, (divW_lit (by decide) (by decide)), _, _, rfl, rfl, (show (0 : Int) < 3 by decide), _, _, rfl, rfl, _, rfl, ?_⟩
            refine iteD (fun c907 => ?_) (fun c907 => ?_)
            · have hw := cW_pos c907 hw
              obtain ⟨g908, hw⟩ := cW_grd hw
              obtain ⟨g909, hw⟩ := cW_grd hw
              obtain ⟨K911, hK912, hw⟩ := cW_push hw
              refine ⟨_, rfl, _, rfl, _, _, rfl, rfl, g908, _, rfl, g909.1, g909.2, fun D913 n914 => lc_range (lo := 0) (n := Int.toNat (((4 + (4 * ((v818 + x814) % 2))) * (4 + (4 * ((v818 + x814) % 2)))))) (fun i H' => ∃ (G' : Hp) (acc916 : (List Int)), Same G878 G' ∧ Sep [] H H G' H' [D913, p838, p893] ∧ H' p838 = some (.lst (vs839 ++ [V.ref p851])) ∧ H' p893 = some (.lst ((v890 : (List Int)).map V.int)) ∧ H' D913 = some (.lst ((acc916 : (List Int)).map V.int)) ∧ Same H891 H' ∧ cW (mapA (List.drop i (rng (0) (Int.toNat (((4 + (4 * ((v818 + x814) % 2))) * (4 + (4 * ((v818 + x814) % 2)))))))) acc916 (fun x => noEr (F_law_c3  x))) K911 EE) ?_ ?_ ?_⟩
              · generalize g918 : upd H891 D913 _ = H919
                obtain ⟨e920, h921⟩ := gen_new n914 g918
                have fr922 := S898.free n914
                have S923 := S898.new n914 e920 h921 fr922
                have h924 := (e920 _ _ (e892 _ _ (e875 _ _ h869)))
                have h925 := (e920 _ _ h896)
                exact ⟨_, [], Same.refl _, (S923.sub (all_cons (.head _) (all_cons (.tail _ (.tail _ (.tail _ (.head _)))) (all_cons (.tail _ (.head _)) all_nil)))), h924, h925, h921, e920, hw⟩
              · intro i H926 hi hw
                obtain ⟨G929, acc931, eG930, S927, h938, h939, h928, eo937, hw⟩ := hw
                obtain ⟨z940, hw⟩ := cW_mapA (rng_get hi) hw
                generalize (0 + (i : Int)) = x941 at hw ⊢
                have hw := cW_noEr hw
                have hw : cW (F_law_c3  (x941)) _ (fun _ => False) := hw
                unfold F_law_c3 at hw
                refine ⟨rfl, ?_⟩
                refine tyes_go ?_
                refine ⟨_, rfl, _, _, rfl, rfl, (.inl ⟨by decide, by decide⟩), _, _, rfl, rfl, _, h928, (app_lenM z940), ?_⟩
                generalize g943 : upd H926 D913 _ = H944
                obtain ⟨x945, h946⟩ := gen_mut g943
                have S947 := S927.mut1 x945 (.head _) h946
                have hw := cW_ok hw
                have h948 := (x945 _ _ h938 (ne_of_none (e892 _ _ (e875 _ _ h869)) n914))
                have h949 := (x945 _ _ h939 (ne_of_none h896 n914))
                exact ⟨_, (acc931 ++ [((7 * x941) - 100)]), eG930, S947, h948, h949, (snoc_map h946), (same_mut eo937 x945 n914), hw⟩
              intro H950 hw
              obtain ⟨G953, acc955, eG954, S951, h962, h963, h952, eo961, hw⟩ := hw
              have hw := hK912 _ (cW_mapA0 (rng_len _ _).symm hw)
              have fr964 := S898.free n914
              have hw := cW_ok hw
              have hw := hK906 _ hw
              exact ⟨_, (acc955), _, rfl, eG954, (S951.sub (all_cons (.tail _ (.head _)) (all_cons (.head _) all_nil))), h962, h952, fr964, (ne_of_none (e892 _ _ (e875 _ _ h869)) n914).symm, hw⟩
            · have hw := cW_neg c907 hw
              have hw := cW_ok hw
              have hw := hK906 _ hw
              have h965 := (e892 _ _ (e875 _ _ h869))
              exact ⟨_, (v890), _, rfl, (Same.refl _), (S898.sub (all_cons (.tail _ (.tail _ (.head _))) (all_cons (.head _) all_nil))), h965, h896, fr897, (ne_of_none (e875 _ _ h869) n894).symm, hw⟩
          · intro σ H966 hw
            obtain ⟨p904, digits_903, G972, rfl, eG973, S967, h968, h969, fr970, ne971, hw⟩ := hw
            unfold F_law_k2 at hw
            obtain ⟨g974, hw⟩ := cW_grd hw
            obtain ⟨K978, hK979, hw⟩ := cW_push hw
            refine ⟨_, rfl, _, rfl, g974.1, g974.2, fun D980 n981 => lc_range (lo := 0) (n := Int.toNat ((4 + (4 * ((v818 + x814) % 2))))) (fun i H' => ∃ (G' : Hp) (acc983 : (List (List Int))) (vs984 : List V) (L982 : List Addr), Same G972 G' ∧ Sep [] H H G' H' (D980 :: (L982 ++ (p838 :: (p904 :: [])))) ∧ H' p838 = some (.lst (vs839 ++ [V.ref p851])) ∧ H' p904 = some (.lst ((digits_903 : (List Int)).map V.int)) ∧ H' D980 = some (.lst vs984) ∧ OwAll G' H' L982 vs984 ((acc983 : (List (List Int))).map (oL oI)) ∧ (∀ b ∈ L982, H966 b = none) ∧ (∀ b ∈ L982, b ≠ D980) ∧ Same H966 H' ∧ cW (mapA (List.drop i (rng (0) (Int.toNat ((4 + (4 * ((v818 + x814) % 2))))))) acc983 (fun x => noEr (F_law_c4 ((4 + (4 * ((v818 + x814) % 2)))) (digits_903) x))) K978 EE) ?_ ?_ ?_⟩
            · generalize g985 : upd H966 D980 _ = H986
              obtain ⟨e987, h988⟩ := gen_new n981 g985
              have fr989 := S967.free n981
              have S990 := S967.new n981 e987 h988 fr989
              have h991 := (e987 _ _ h968)
              have h992 := (e987 _ _ h969)
              exact ⟨_, [], [], [], Same.refl _, (S990.sub (all_cons (.head _) (all_app (L := []) all_nil (all_cons (.tail _ (.head _)) (all_cons (.tail _ (.tail _ (.head _))) all_nil))))), h991, h992, h988, OwAll.nil, all_nil, all_nil, e987, hw⟩
            · intro i H993 hi hw
              obtain ⟨G996, acc998, vs999, L1001, eG997, S994, h1005, h1006, h995, d1000, nb1002, nd1003, eo1004, hw⟩ := hw
              obtain ⟨z1007, hw⟩ := cW_mapA (rng_get hi) hw
              generalize (0 + (i : Int)) = x1008 at hw ⊢
              have hw := cW_noEr hw
              have hw : cW (F_law_c4 ((4 + (4 * ((v818 + x814) % 2)))) (digits_903) (x1008)) _ (fun _ => False) := hw
              unfold F_law_c4 at hw
              refine ⟨rfl, ?_⟩
              refine tyes_go ?_
              obtain ⟨g1010, hw⟩ := cW_grd hw
              obtain ⟨K1015, hK1016, hw⟩ := cW_push hw
              refine ⟨_, rfl, _, rfl, g1010.1, g1010.2, fun D1017 n1018 => lc_range (lo := 0) (n := Int.toNat ((4 + (4 * ((v818 + x814) % 2))))) (fun i2 H' => ∃ (G' : Hp) (acc1020 : (List Int)), Same G996 G' ∧ Sep [] H H G' H' (D1017 :: (D980 :: (p838 :: (p904 :: (L1001 ++ []))))) ∧ H' D980 = some (.lst (vs999)) ∧ H' p838 = some (.lst (vs839 ++ [V.ref p851])) ∧ H' p904 = some (.lst ((digits_903 : (List Int)).map V.int)) ∧ H' D1017 = some (.lst ((acc1020 : (List Int)).map V.int)) ∧ OwAll G' H' L1001 (vs999) ((acc998 : (List (List Int))).map (oL oI)) ∧ Same H993 H' ∧ cW (mapA (List.drop i2 (rng (0) (Int.toNat ((4 + (4 * ((v818 + x814) % 2))))))) acc1020 (fun x => noEr (F_law_c5 ((4 + (4 * ((v818 + x814) % 2)))) (digits_903) (x1008) x))) K1015 (fun _ => False)) ?_ ?_ ?_⟩
              · generalize g1022 : upd H993 D1017 _ = H1023
                obtain ⟨e1024, h1025⟩ := gen_new n1018 g1022
                have fr1026 := S994.free n1018
                have S1027 := S994.new n1018 e1024 h1025 fr1026
                have h1028 := (e1024 _ _ h995)
                have h1029 := (e1024 _ _ h1005)
                have h1030 := (e1024 _ _ h1006)
                have w1031 : OwAll G996 H1023 L1001 (vs999) ((acc998 : (List (List Int))).map (oL oI)) := (OwAll.mono (Same.refl _) (keeps_same e1024) d1000)
                exact ⟨_, [], Same.refl _, (S1027.sub (all_cons (.head _) (all_cons (.tail _ (.head _)) (all_cons (.tail _ (.tail _ (List.mem_append_right _ (.head _)))) (all_cons (.tail _ (.tail _ (List.mem_append_right _ (.tail _ (.head _))))) (all_app ((fun b hb => (.tail _ (.tail _ (List.mem_append_left _ hb)))) : ∀ b ∈ L1001, b ∈ (D1017 :: (D980 :: (L1001 ++ (p838 :: (p904 :: [])))))) all_nil)))))), h1028, h1029, h1030, h1025, w1031, e1024, hw⟩
              · intro i2 H1032 hi hw
                obtain ⟨G1035, acc1037, eG1036, S1033, h1044, h1045, h1046, h1034, w1047, eo1043, hw⟩ := hw
                obtain ⟨z1048, hw⟩ := cW_mapA (rng_get hi) hw
                generalize (0 + (i2 : Int)) = x1049 at hw ⊢
                have hw := cW_noEr hw
                have hw : cW (F_law_c5 ((4 + (4 * ((v818 + x814) % 2)))) (digits_903) (x1008) (x1049)) _ (fun _ => False) := hw
                unfold F_law_c5 at hw
                refine ⟨rfl, ?_⟩
                refine tyes_go ?_
                obtain ⟨g1051, hw⟩ := cW_grd hw
                obtain ⟨g1052, hw⟩ := cW_grd hw
                refine ⟨_, rfl, _, rfl, _, rfl, _, _, rfl, rfl, g1051, _, rfl, _, _, rfl, rfl, _, _, _, _, rfl, rfl, (SqL.of h1046), (atI_map g1052), _, _, rfl, rfl, _, h1034, (app_lenM z1048), ?_⟩
                generalize g1053 : upd H1032 D1017 _ = H1054
                obtain ⟨x1055, h1056⟩ := gen_mut g1053
                have S1057 := S1033.mut1 x1055 (.head _) h1056
                have hw := cW_ok hw
                have h1058 := (x1055 _ _ h1044 (ne_of_none h995 n1018))
                have h1059 := (x1055 _ _ h1045 (ne_of_none h1005 n1018))
                have h1060 := (x1055 _ _ h1046 (ne_of_none h1006 n1018))
                have w1061 : OwAll G1035 H1054 L1001 (vs999) ((acc998 : (List (List Int))).map (oL oI)) := (OwAll.mono (Same.refl _) (keeps_mut x1055 ((there_ne (fun b_ hb_ => (S994.ow b_ (((fun b hb => (.tail _ (List.mem_append_left _ hb))) : ∀ b ∈ L1001, b ∈ (D980 :: (L1001 ++ (p838 :: (p904 :: []))))) b_ hb_)).2.1) n1018) : ∀ b ∈ L1001, b ≠ D1017)) w1047)
                exact ⟨_, (acc1037 ++ [((itD (digits_903) (((x1008 * (4 + (4 * ((v818 + x814) % 2)))) + x1049))) - 1000)]), eG1036, S1057, h1058, h1059, h1060, (snoc_map h1056), w1061, (same_mut eo1043 x1055 n1018), hw⟩
              intro H1062 hw
              obtain ⟨G1065, acc1067, eG1066, S1063, h1074, h1075, h1076, h1064, w1077, eo1073, hw⟩ := hw
              have hw := hK1016 _ (cW_mapA0 (rng_len _ _).symm hw)
              have fr1078 := S994.free n1018
              refine ⟨_, h1074, (app_len (OwAll.rpA w1077 (encO_L encO_I) S1063.sG) z1007), ?_⟩
              generalize g1079 : upd H1062 D980 _ = H1080
              obtain ⟨x1081, h1082⟩ := gen_mut g1079
              have S1083 := S1063.mut1 x1081 (.tail _ (.head _)) h1082
              have hw := cW_ok hw
              have h1084 := (x1081 _ _ h1075 (ne_of_none h968 n981))
              have h1085 := (x1081 _ _ h1076 (ne_of_none h969 n981))
              exact ⟨_, (acc998 ++ [acc1067]), _, (L1001 ++ (D1017 :: ([] : List Addr))), (Same.trans eG997 eG1066), (S1083.sub (all_cons (.tail _ (.head _)) (all_app (all_app ((fun b hb => (.tail _ (.tail _ (.tail _ (.tail _ (List.mem_append_left _ hb)))))) : ∀ b ∈ L1001, b ∈ (D1017 :: (D980 :: (p838 :: (p904 :: (L1001 ++ [])))))) (all_cons (.head _) all_nil)) (all_cons (.tail _ (.tail _ (.head _))) (all_cons (.tail _ (.tail _ (.tail _ (.head _)))) all_nil))))), h1084, h1085, h1082, (OwAll.mono (Same.refl _) (keeps_mut x1081 ((all_app nd1003 (all_cons (ne_of_none h995 n1018).symm all_nil)) : ∀ b ∈ (L1001 ++ (D1017 :: ([] : List Addr))), b ≠ D980)) (OwAll.snocM w1077 (Ow.ints h1064) ((fun b hb => (nm_cons ((there_ne (fun b_ hb_ => (S994.ow b_ (((fun b hb => (.tail _ (List.mem_append_left _ hb))) : ∀ b ∈ L1001, b ∈ (D980 :: (L1001 ++ (p838 :: (p904 :: []))))) b_ hb_)).2.1) n1018) b hb) nm_nil)) : ∀ b ∈ L1001, b ∉ (D1017 :: ([] : List Addr))))), ((all_app nb1002 (all_cons (none_of_same eo1004 n1018) all_nil)) : ∀ b ∈ (L1001 ++ (D1017 :: ([] : List Addr))), H966 b = none), ((all_app nd1003 (all_cons (ne_of_none h995 n1018).symm all_nil)) : ∀ b ∈ (L1001 ++ (D1017 :: ([] : List Addr))), b ≠ D980), (same_mut (Same.trans eo1004 eo1073) x1081 n981), hw⟩
            intro H1086 hw
            obtain ⟨G1089, acc1091, vs1092, L1094, eG1090, S1087, h1098, h1099, h1088, d1093, nb1095, nd1096, eo1097, hw⟩ := hw
            have hw := hK979 _ (cW_mapA0 (rng_len _ _).symm hw)
            have fr1100 := S967.free n981
            obtain ⟨g1101, hw⟩ := cW_grd hw
            refine ⟨_, rfl, _, ((encL (encL PyData.int)) (acc1091)), rfl, (rp_mk_list h1088 (OwAll.rpA d1093 (encO_L encO_I) S1087.sG)), g1101, _, rfl, rfl, rfl, G1089, _, _, rfl, S1087.sG, (Rp.hide_nil (rp_mk_list h1088 (OwAll.rpA d1093 (encO_L encO_I) S1087.sG))), cW_call hw (fun v1102 hw p1105 H1103 n1106 e1104 h1107 => ?_) (fun e he => (hE e he).elim)⟩
            have h1108 : H1103 p1105 = some (.lst ((v1102 : (List Int)).map V.int)) := h1107
            have fr1109 := S1087.free n1106
            have S1110 := S1087.new n1106 e1104 h1108 fr1109
            obtain ⟨g1111, hw⟩ := cW_grd hw
            refine ⟨_, rfl, _, rfl, _, rfl, _, _, rfl, rfl, g1111, rfl, rfl, G1089, _, _, _, rfl, S1110.sG, (hide_nil h1108), cW_call hw (fun v1112 hw H1113 e1114 => ?_) (fun e he => (hE e he).elim)⟩
            have S1115 := S1110.same e1114
            refine ⟨_, rfl, ?_⟩
            refine iteBN (fun c1116 => ?_) (fun c1116 => ?_)
            · have hw := cW_negB c1116 hw
              refine iteT ?_
              have hw := cW_ok hw
              have hw := hK816 (.rt _) hw
              have hw := hK795 (.rt _) hw
              have hw := cW_ok hw
              exact eq_bl (k _) (hK0 _ hw).symm
            · have hw := cW_pos c1116 hw
              obtain ⟨g1117, hw⟩ := cW_grd hw
              have h1118 := (e1114 _ _ (e1104 _ _ h1088))
              have w1119 : OwAll G1089 H1113 L1094 (vs1092) ((acc1091 : (List (List Int))).map (oL oI)) := (OwAll.mono (Same.refl _) (keeps_same e1114) (OwAll.mono (Same.refl _) (keeps_same e1104) d1093))
              refine ⟨_, rfl, _, ((encL (encL PyData.int)) (acc1091)), rfl, (rp_mk_list h1118 (OwAll.rpA w1119 (encO_L encO_I) S1115.sG)), g1117, _, rfl, rfl, _, rfl, ?_⟩
              refine iteN (fun c1120 => ?_) (fun c1120 => ?_)
              · have hw := cW_neg c1120 hw
                have hw := cW_ok hw
                have hw := hK816 (.rt _) hw
                have hw := hK795 (.rt _) hw
                have hw := cW_ok hw
                exact eq_bl (k _) (hK0 _ hw).symm
              · have hw := cW_pos c1120 hw
                obtain ⟨K1123, hK1124, hw⟩ := cW_push hw
                refine ⟨_, rfl, _, rfl, _, rfl, ⟨_, (SqL.of (S1115.sG _ _ (eG1090 _ _ (eG973 _ _ (eG880 _ _ (eG861 _ _ (eG842 _ _ h833)))))))⟩, fun D1125 n1126 => lc_list (K := K) (a := a831) (xs := vs832) (fun i H' => ∃ (G' : Hp) (acc1128 : (List Int)), Same G1089 G' ∧ Sep [] H H G' H' (D1125 :: (D980 :: (p838 :: (p904 :: (p1105 :: (L1094 ++ [])))))) ∧ H' D980 = some (.lst (vs1092)) ∧ H' p838 = some (.lst (vs839 ++ [V.ref p851])) ∧ H' p904 = some (.lst ((digits_903 : (List Int)).map V.int)) ∧ H' p1105 = some (.lst ((v1102 : (List Int)).map V.int)) ∧ H' D1125 = some (.lst ((acc1128 : (List Int)).map V.int)) ∧ OwAll G' H' L1094 (vs1092) ((acc1091 : (List (List Int))).map (oL oI)) ∧ Same H1113 H' ∧ cW (mapA (List.drop i (v821)) acc1128 (fun x => noEr (F_law_c6 (acc1091) x))) K1123 EE) ?_ ?_ ?_ ?_⟩
                · generalize g1130 : upd H1113 D1125 _ = H1131
                  obtain ⟨e1132, h1133⟩ := gen_new n1126 g1130
                  have fr1134 := S1115.free n1126
                  have S1135 := S1115.new n1126 e1132 h1133 fr1134
                  have h1136 := (e1132 _ _ h1118)
                  have h1137 := (e1132 _ _ (e1114 _ _ (e1104 _ _ h1098)))
                  have h1138 := (e1132 _ _ (e1114 _ _ (e1104 _ _ h1099)))
                  have h1139 := (e1132 _ _ (e1114 _ _ h1108))
                  have w1140 : OwAll G1089 H1131 L1094 (vs1092) ((acc1091 : (List (List Int))).map (oL oI)) := (OwAll.mono (Same.refl _) (keeps_same e1132) w1119)
                  exact ⟨_, [], Same.refl _, (S1135.sub (all_cons (.head _) (all_cons (.tail _ (.tail _ (.head _))) (all_cons (.tail _ (.tail _ (.tail _ (List.mem_append_right _ (.head _))))) (all_cons (.tail _ (.tail _ (.tail _ (List.mem_append_right _ (.tail _ (.head _)))))) (all_cons (.tail _ (.head _)) (all_app ((fun b hb => (.tail _ (.tail _ (.tail _ (List.mem_append_left _ hb))))) : ∀ b ∈ L1094, b ∈ (D1125 :: (p1105 :: (D980 :: (L1094 ++ (p838 :: (p904 :: []))))))) all_nil))))))), h1136, h1137, h1138, h1139, h1133, w1140, e1132, hw⟩
                · intro i H1141 _ hw
                  obtain ⟨G1144, acc1146, eG1145, S1142, h1153, h1154, h1155, h1156, h1143, w1157, eo1152, hw⟩ := hw
                  exact (SqL.of (S1142.sG _ _ (eG1145 _ _ (eG1090 _ _ (eG973 _ _ (eG880 _ _ (eG861 _ _ (eG842 _ _ h833))))))))
                · intro i x H1158 hj hw
                  obtain ⟨G1161, acc1163, eG1162, S1159, h1170, h1171, h1172, h1173, h1160, w1174, eo1169, hw⟩ := hw
                  obtain ⟨x1175, hx, r1176⟩ := RpAll.get (RpAll.mono eG1162 (RpAll.mono eG1090 (RpAll.mono eG973 (RpAll.mono eG880 (RpAll.mono eG861 (RpAll.mono eG842 d834)))))) hj
                  obtain ⟨a1177, v1179, v1180, rfl, h1178, r1181, r1182⟩ := rp_tup2 r1176
                  obtain rfl := rp_int r1181
                  obtain rfl := rp_int r1182
                  obtain ⟨z1183, hw⟩ := cW_mapA hx hw
                  have hw := cW_noEr hw
                  have hw : cW (F_law_c6 (acc1091) (x1175)) _ (fun _ => False) := hw
                  unfold F_law_c6 at hw
                  refine ⟨rfl, ?_⟩
                  refine tyes_go ?_
                  obtain ⟨g1185, hw⟩ := cW_grd hw
                  obtain ⟨v1186, L1187, a1188, w1189, hs1190, up1191, gr1192⟩ := OwAll.partM (k := x1175.1) w1174 g1185
                  obtain ⟨b1193, rfl, rfl, h1194⟩ := Ow.toInts w1189
                  obtain ⟨g1195, hw⟩ := cW_grd hw
                  refine ⟨_, rfl, _, rfl, _, _, _, _, rfl, rfl, (SqT.of (S1159.sG _ _ h1178)), rfl, _, _, _, _, rfl, rfl, (SqL.of h1170), a1188, _, rfl, _, _, _, _, rfl, rfl, (SqT.of (S1159.sG _ _ h1178)), rfl, _, _, _, _, rfl, rfl, (SqL.of h1194), (atI_map g1195), _, h1160, (app_lenM z1183), ?_⟩
                  generalize g1196 : upd H1158 D1125 _ = H1197
                  obtain ⟨x1198, h1199⟩ := gen_mut g1196
                  have S1200 := S1159.mut1 x1198 (.head _) h1199
                  have hw := cW_ok hw
                  have h1201 := (x1198 _ _ h1170 (ne_of_none h1118 n1126))
                  have h1202 := (x1198 _ _ h1171 (ne_of_none (e1114 _ _ (e1104 _ _ h1098)) n1126))
                  have h1203 := (x1198 _ _ h1172 (ne_of_none (e1114 _ _ (e1104 _ _ h1099)) n1126))
                  have h1204 := (x1198 _ _ h1173 (ne_of_none (e1114 _ _ h1108) n1126))
                  have w1205 : OwAll G1161 H1197 L1094 (vs1092) ((acc1091 : (List (List Int))).map (oL oI)) := (OwAll.mono (Same.refl _) (keeps_mut x1198 ((there_ne (fun b_ hb_ => (S1115.ow b_ (((fun b hb => (.tail _ (.tail _ (List.mem_append_left _ hb)))) : ∀ b ∈ L1094, b ∈ (p1105 :: (D980 :: (L1094 ++ (p838 :: (p904 :: [])))))) b_ hb_)).2.1) n1126) : ∀ b ∈ L1094, b ≠ D1125)) w1174)
                  exact ⟨_, (acc1163 ++ [(itD ((itD (acc1091) (x1175.1))) (x1175.2))]), eG1162, S1200, h1201, h1202, h1203, h1204, (snoc_map h1199), w1205, (same_mut eo1169 x1198 n1126), hw⟩
                intro H1206 hw
                obtain ⟨G1209, acc1211, eG1210, S1207, h1218, h1219, h1220, h1221, h1208, w1222, eo1217, hw⟩ := hw
                have hw := hK1124 _ (cW_mapA0 (by rw [(RpAll.mono eG1210 (RpAll.mono eG1090 (RpAll.mono eG973 (RpAll.mono eG880 (RpAll.mono eG861 (RpAll.mono eG842 d834)))))).len, List.length_map]) hw)
                have fr1223 := S1115.free n1126
                refine ⟨_, _, (rp_mk_ints h1221), (rp_mk_ints h1208), _, rfl, ?_⟩
                refine iteN (fun c1224 => ?_) (fun c1224 => ?_)
                · have hw := cW_neg c1224 hw
                  have hw := cW_ok hw
                  have hw := hK816 (.rt _) hw
                  have hw := hK795 (.rt _) hw
                  have hw := cW_ok hw
                  exact eq_bl (k _) (hK0 _ hw).symm
                · have hw := cW_pos c1224 hw
                  refine ⟨_, rfl, _, _, rfl, (SqL.of h1221), fun p1225 n1226 => ?_⟩
                  generalize g1227 : upd H1206 p1225 _ = H1228
                  obtain ⟨e1229, h1230⟩ := gen_new n1226 g1227
                  have h1231 : H1228 p1225 = some (.lst ((v1102 : (List Int)).map V.int)) := h1230
                  have fr1232 := S1207.free n1226
                  have S1233 := S1207.new n1226 e1229 h1231 fr1232
                  have h1234 := (e1229 _ _ h1221)
                  refine ⟨_, rfl, rfl, rfl, G1209, _, _, rfl, S1233.sG, (hide_nil h1234), cW_call hw (fun v1235 hw H1236 a1238 vs1239 L1240 G1241 n1242 nb1243 nd1244 e1237 eG1245 sG1246 hn1247 ga1248 gL1249 h1250 w1251 => ?_) (fun e he => (hE e he).elim)⟩
                  have fr1252 := S1233.free n1242
                  have S1253 : Sep _ _ _ _ H1236 (a1238 :: (L1240 ++ (p1225 :: (D1125 :: (D980 :: (p838 :: (p904 :: (p1105 :: (L1094 ++ []))))))))) := Sep.steptree S1233 e1237 eG1245 sG1246 hn1247 (a1238 :: L1240) (all_cons ⟨n1242, ga1248, some_ne h1250⟩ (fun b hb => ⟨nb1243 b hb, gL1249 b hb, OwAll.there w1251 b hb⟩))
                  refine ⟨_, rfl, _, rfl, rfl, rfl, G1241, _, _, _, rfl, S1253.sG, (Rp.hide_nil (rp_mk_list h1250 (OwAll.rpA w1251 (encO_L encO_I) S1253.sG))), cW_call hw (fun v1254 hw H1255 e1256 => ?_) (fun e he => (hE e he).elim)⟩
                  have S1257 := S1253.same e1256
                  refine ⟨_, rfl, ?_⟩
                  refine iteBN (fun c1258 => ?_) (fun c1258 => ?_)
                  · have hw := cW_negB c1258 hw
                    refine iteT ?_
                    have hw := cW_ok hw
                    have hw := hK816 (.rt _) hw
                    have hw := hK795 (.rt _) hw
                    have hw := cW_ok hw
                    exact eq_bl (k _) (hK0 _ hw).symm
                  · have hw := cW_pos c1258 hw
                    have h1259 := (e1256 _ _ h1250)
                    have w1260 : OwAll G1241 H1255 L1240 (vs1239) ((v1235 : (List (List Int))).map (oL oI)) := (OwAll.mono (Same.refl _) (keeps_same e1256) w1251)
                    have h1261 := (e1256 _ _ (e1237 _ _ (e1229 _ _ h1218)))
                    have w1262 : OwAll G1241 H1255 L1094 (vs1092) ((acc1091 : (List (List Int))).map (oL oI)) := (OwAll.mono eG1245 keeps_refl (OwAll.mono (Same.refl _) (keeps_same e1256) (OwAll.mono (Same.refl _) (keeps_same e1237) (OwAll.mono (Same.refl _) (keeps_same e1229) w1222))))
                    refine ⟨_, rfl, _, rfl, _, _, (rp_mk_list h1259 (OwAll.rpA w1260 (encO_L encO_I) S1257.sG)), (rp_mk_list h1261 (OwAll.rpA w1262 (encO_L encO_I) S1257.sG)), _, rfl, ?_⟩
                    refine iteN (fun c1263 => ?_) (fun c1263 => ?_)
                    · have hw := cW_neg c1263 hw
                      refine iteT ?_
                      have hw := cW_ok hw
                      have hw := hK816 (.rt _) hw
                      have hw := hK795 (.rt _) hw
                      have hw := cW_ok hw
                      exact eq_bl (k _) (hK0 _ hw).symm
                    · have hw := cW_pos c1263 hw
                      have h1264 := (e1256 _ _ (e1237 _ _ h1234))
                      have h1265 := (e1256 _ _ (e1237 _ _ h1231))
                      refine ⟨_, rfl, _, rfl, _, _, (rp_mk_ints h1264), (rp_mk_ints h1265), _, rfl, ?_⟩
                      refine iteN (fun c1266 => ?_) (fun c1266 => ?_)
                      · have hw := cW_neg c1266 hw
                        have hw := cW_ok hw
                        have hw := hK816 (.rt _) hw
                        have hw := hK795 (.rt _) hw
                        have hw := cW_ok hw
                        exact eq_bl (k _) (hK0 _ hw).symm
                      · have hw := cW_pos c1266 hw
                        refine ⟨_, rfl, _, _, rfl, rfl, (divW_lit (by decide) (by decide)), _, _, rfl, rfl, (show (0 : Int) < 12 by decide), ?_⟩
                        have hw := cW_bnd hw
                        refine ⟨_, rfl, _, _, rfl, rfl, (divW_lit (by decide) (by decide)), _, _, rfl, rfl, (show (0 : Int) < 80 by decide), ?_⟩
                        have hw := cW_bnd hw
                        refine ⟨fun σ H' => ∃ (wrong_1274 : Int) (G' : Hp), σ = [some (V.ref a_script), some (V.int (x814)), some (V.int ((v818 + x814))), some (V.int ((4 + (4 * ((v818 + x814) % 2))))), some (V.ref a831), some (V.ref p838), some (V.ref p904), some (V.ref D980), some (V.str ((PyData.shown ((encL (encL PyData.int)) (acc1091))))), some (V.ref p1105), some (V.ref p1225), some (V.ref a1238), some (V.int wrong_1274), some (V.int ((((v818 + x814) / 11) % 80))), u809, none, none, none, none] ∧ Same G1241 G' ∧ Sep [] H H G' H' (p838 :: (p904 :: (D980 :: (p1105 :: (p1225 :: (a1238 :: (L1094 ++ (L1240 ++ [])))))))) ∧ H' p838 = some (.lst (vs839 ++ [V.ref p851])) ∧ H' p904 = some (.lst ((digits_903 : (List Int)).map V.int)) ∧ H' D980 = some (.lst (vs1092)) ∧ H' p1105 = some (.lst ((v1102 : (List Int)).map V.int)) ∧ H' p1225 = some (.lst ((v1102 : (List Int)).map V.int)) ∧ H' a1238 = some (.lst (vs1239)) ∧ OwAll G' H' L1094 (vs1092) ((acc1091 : (List (List Int))).map (oL oI)) ∧ OwAll G' H' L1240 (vs1239) ((v1235 : (List (List Int))).map (oL oI)) ∧ cW (F_law_k7 ((v818 + x814)) ((4 + (4 * ((v818 + x814) % 2)))) (acc1091) ((((v818 + x814) / 11) % 80)) wrong_1274) K815 EE, ?_, ?_⟩
                        · obtain ⟨K1275, hK1276, hw⟩ := cW_push hw
                          refine ⟨_, rfl, _, _, rfl, rfl, _, rfl, ?_⟩
                          refine iteD (fun c1277 => ?_) (fun c1277 => ?_)
                          · have hw := cW_pos c1277 hw
                            refine iteT ?_
                            have hw := cW_ok hw
                            have hw := hK1276 _ hw
                            have h1278 := (e1256 _ _ (e1237 _ _ (e1229 _ _ h1219)))
                            have h1279 := (e1256 _ _ (e1237 _ _ (e1229 _ _ h1220)))
                            exact ⟨(5), _, rfl, (Same.refl _), (S1257.sub (all_cons (.tail _ (List.mem_append_right _ (.tail _ (.tail _ (.tail _ (.head _)))))) (all_cons (.tail _ (List.mem_append_right _ (.tail _ (.tail _ (.tail _ (.tail _ (.head _))))))) (all_cons (.tail _ (List.mem_append_right _ (.tail _ (.tail _ (.head _))))) (all_cons (.tail _ (List.mem_append_right _ (.tail _ (.tail _ (.tail _ (.tail _ (.tail _ (.head _)))))))) (all_cons (.tail _ (List.mem_append_right _ (.head _))) (all_cons (.head _) (all_app ((fun b hb => (.tail _ (List.mem_append_right _ (.tail _ (.tail _ (.tail _ (.tail _ (.tail _ (.tail _ (List.mem_append_left _ hb)))))))))) : ∀ b ∈ L1094, b ∈ (a1238 :: (L1240 ++ (p1225 :: (D1125 :: (D980 :: (p838 :: (p904 :: (p1105 :: (L1094 ++ [])))))))))) (all_app ((fun b hb => (.tail _ (List.mem_append_left _ hb))) : ∀ b ∈ L1240, b ∈ (a1238 :: (L1240 ++ (p1225 :: (D1125 :: (D980 :: (p838 :: (p904 :: (p1105 :: (L1094 ++ [])))))))))) all_nil))))))))), h1278, h1279, h1261, h1264, h1265, h1259, w1262, w1260, hw⟩
                          · have hw := cW_neg c1277 hw
                            refine ⟨_, rfl, _, _, rfl, rfl, _, rfl, ?_⟩
                            refine iteD (fun c1280 => ?_) (fun c1280 => ?_)
                            · have hw := cW_pos c1280 hw
                              have hw := cW_ok hw
                              have hw := hK1276 _ hw
                              have h1281 := (e1256 _ _ (e1237 _ _ (e1229 _ _ h1219)))
                              have h1282 := (e1256 _ _ (e1237 _ _ (e1229 _ _ h1220)))
                              exact ⟨(5), _, rfl, (Same.refl _), (S1257.sub (all_cons (.tail _ (List.mem_append_right _ (.tail _ (.tail _ (.tail _ (.head _)))))) (all_cons (.tail _ (List.mem_append_right _ (.tail _ (.tail _ (.tail _ (.tail _ (.head _))))))) (all_cons (.tail _ (List.mem_append_right _ (.tail _ (.tail _ (.head _))))) (all_cons (.tail _ (List.mem_append_right _ (.tail _ (.tail _ (.tail _ (.tail _ (.tail _ (.head _)))))))) (all_cons (.tail _ (List.mem_append_right _ (.head _))) (all_cons (.head _) (all_app ((fun b hb => (.tail _ (List.mem_append_right _ (.tail _ (.tail _ (.tail _ (.tail _ (.tail _ (.tail _ (List.mem_append_left _ hb)))))))))) : ∀ b ∈ L1094, b ∈ (a1238 :: (L1240 ++ (p1225 :: (D1125 :: (D980 :: (p838 :: (p904 :: (p1105 :: (L1094 ++ [])))))))))) (all_app ((fun b hb => (.tail _ (List.mem_append_left _ hb))) : ∀ b ∈ L1240, b ∈ (a1238 :: (L1240 ++ (p1225 :: (D1125 :: (D980 :: (p838 :: (p904 :: (p1105 :: (L1094 ++ [])))))))))) all_nil))))))))), h1281, h1282, h1261, h1264, h1265, h1259, w1262, w1260, hw⟩
                            · have hw := cW_neg c1280 hw
                              have hw := cW_ok hw
                              have hw := hK1276 _ hw
                              have h1283 := (e1256 _ _ (e1237 _ _ (e1229 _ _ h1219)))
                              have h1284 := (e1256 _ _ (e1237 _ _ (e1229 _ _ h1220)))
                              exact ⟨((((v818 + x814) / 7) % 12)), _, rfl, (Same.refl _), (S1257.sub (all_cons (.tail _ (List.mem_append_right _ (.tail _ (.tail _ (.tail _ (.head _)))))) (all_cons (.tail _ (List.mem_append_right _ (.tail _ (.tail _ (.tail _ (.tail _ (.head _))))))) (all_cons (.tail _ (List.mem_append_right _ (.tail _ (.tail _ (.head _))))) (all_cons (.tail _ (List.mem_append_right _ (.tail _ (.tail _ (.tail _ (.tail _ (.tail _ (.head _)))))))) (all_cons (.tail _ (List.mem_append_right _ (.head _))) (all_cons (.head _) (all_app ((fun b hb => (.tail _ (List.mem_append_right _ (.tail _ (.tail _ (.tail _ (.tail _ (.tail _ (.tail _ (List.mem_append_left _ hb)))))))))) : ∀ b ∈ L1094, b ∈ (a1238 :: (L1240 ++ (p1225 :: (D1125 :: (D980 :: (p838 :: (p904 :: (p1105 :: (L1094 ++ [])))))))))) (all_app ((fun b hb => (.tail _ (List.mem_append_left _ hb))) : ∀ b ∈ L1240, b ∈ (a1238 :: (L1240 ++ (p1225 :: (D1125 :: (D980 :: (p838 :: (p904 :: (p1105 :: (L1094 ++ [])))))))))) all_nil))))))))), h1283, h1284, h1261, h1264, h1265, h1259, w1262, w1260, hw⟩
                        · intro σ H1285 hw
                          obtain ⟨wrong_1274, G1295, rfl, eG1296, S1286, h1287, h1288, h1289, h1290, h1291, h1292, w1293, w1294, hw⟩ := hw
                          unfold F_law_k7 at hw
                          refine ⟨fun σ H' => ∃ (count_1302 : Int) (G' : Hp), σ = [some (V.ref a_script), some (V.int (x814)), some (V.int ((v818 + x814))), some (V.int ((4 + (4 * ((v818 + x814) % 2))))), some (V.ref a831), some (V.ref p838), some (V.ref p904), some (V.ref D980), some (V.str ((PyData.shown ((encL (encL PyData.int)) (acc1091))))), some (V.ref p1105), some (V.ref p1225), some (V.ref a1238), some (V.int (wrong_1274)), some (V.int count_1302), u809, none, none, none, none] ∧ Same G1295 G' ∧ Sep [] H H G' H' (p838 :: (p904 :: (D980 :: (p1105 :: (p1225 :: (a1238 :: (L1094 ++ (L1240 ++ [])))))))) ∧ H' p838 = some (.lst (vs839 ++ [V.ref p851])) ∧ H' p904 = some (.lst ((digits_903 : (List Int)).map V.int)) ∧ H' D980 = some (.lst (vs1092)) ∧ H' p1105 = some (.lst ((v1102 : (List Int)).map V.int)) ∧ H' p1225 = some (.lst ((v1102 : (List Int)).map V.int)) ∧ H' a1238 = some (.lst (vs1239)) ∧ OwAll G' H' L1094 (vs1092) ((acc1091 : (List (List Int))).map (oL oI)) ∧ OwAll G' H' L1240 (vs1239) ((v1235 : (List (List Int))).map (oL oI)) ∧ cW (F_law_k8 ((v818 + x814)) ((4 + (4 * ((v818 + x814) % 2)))) (acc1091) (wrong_1274) count_1302) K815 EE, ?_, ?_⟩
                          · obtain ⟨K1303, hK1304, hw⟩ := cW_push hw
                            refine ⟨_, rfl, _, _, rfl, rfl, _, rfl, ?_⟩
                            refine iteD (fun c1305 => ?_) (fun c1305 => ?_)
                            · have hw := cW_pos c1305 hw
                              refine iteT ?_
                              have hw := cW_ok hw
                              have hw := hK1304 _ hw
                              exact ⟨(65), _, rfl, (Same.refl _), S1286, h1287, h1288, h1289, h1290, h1291, h1292, w1293, w1294, hw⟩
                            · have hw := cW_neg c1305 hw
                              refine ⟨_, rfl, _, _, rfl, rfl, _, rfl, ?_⟩
                              refine iteD (fun c1306 => ?_) (fun c1306 => ?_)
                              · have hw := cW_pos c1306 hw
                                have hw := cW_ok hw
                                have hw := hK1304 _ hw
                                exact ⟨(65), _, rfl, (Same.refl _), S1286, h1287, h1288, h1289, h1290, h1291, h1292, w1293, w1294, hw⟩
                              · have hw := cW_neg c1306 hw
                                have hw := cW_ok hw
                                have hw := hK1304 _ hw
                                exact ⟨((((v818 + x814) / 11) % 80)), _, rfl, (Same.refl _), S1286, h1287, h1288, h1289, h1290, h1291, h1292, w1293, w1294, hw⟩
                          · intro σ H1307 hw
                            obtain ⟨count_1302, G1317, rfl, eG1318, S1308, h1309, h1310, h1311, h1312, h1313, h1314, w1315, w1316, hw⟩ := hw
                            unfold F_law_k8 at hw
                            obtain ⟨K1320, hK1321, hw⟩ := cW_push hw
                            refine ⟨_, rfl, _, rfl, ⟨_, (SqL.of h1311)⟩, fun D1322 n1323 => lc_list (K := K) (a := D980) (xs := vs1092) (fun i H' => ∃ (G' : Hp) (acc1325 : (List (List Int))) (vs1326 : List V) (L1324 : List Addr), Same G1317 G' ∧ Sep [] H H G' H' (D1322 :: (L1324 ++ (D980 :: (a1238 :: (p838 :: (p904 :: (p1105 :: (p1225 :: (L1094 ++ (L1240 ++ [])))))))))) ∧ H' D980 = some (.lst (vs1092)) ∧ H' a1238 = some (.lst (vs1239)) ∧ H' p838 = some (.lst (vs839 ++ [V.ref p851])) ∧ H' p904 = some (.lst ((digits_903 : (List Int)).map V.int)) ∧ H' p1105 = some (.lst ((v1102 : (List Int)).map V.int)) ∧ H' p1225 = some (.lst ((v1102 : (List Int)).map V.int)) ∧ H' D1322 = some (.lst vs1326) ∧ OwAll G' H' L1094 (vs1092) ((acc1091 : (List (List Int))).map (oL oI)) ∧ OwAll G' H' L1240 (vs1239) ((v1235 : (List (List Int))).map (oL oI)) ∧ OwAll G' H' L1324 vs1326 ((acc1325 : (List (List Int))).map (oL oI)) ∧ (∀ b ∈ L1324, H1307 b = none) ∧ (∀ b ∈ L1324, b ≠ D1322) ∧ Same H1307 H' ∧ cW (mapA (List.drop i (acc1091)) acc1325 (fun x => noEr (F_law_c9  x))) K1320 EE) ?_ ?_ ?_ ?_⟩
                            · generalize g1327 : upd H1307 D1322 _ = H1328
                              obtain ⟨e1329, h1330⟩ := gen_new n1323 g1327
                              have fr1331 := S1308.free n1323
                              have S1332 := S1308.new n1323 e1329 h1330 fr1331
                              have h1333 := (e1329 _ _ h1311)
                              have h1334 := (e1329 _ _ h1314)
                              have h1335 := (e1329 _ _ h1309)
                              have h1336 := (e1329 _ _ h1310)
                              have h1337 := (e1329 _ _ h1312)
                              have h1338 := (e1329 _ _ h1313)
                              have w1339 : OwAll G1317 H1328 L1094 (vs1092) ((acc1091 : (List (List Int))).map (oL oI)) := (OwAll.mono (Same.refl _) (keeps_same e1329) w1315)
                              have w1340 : OwAll G1317 H1328 L1240 (vs1239) ((v1235 : (List (List Int))).map (oL oI)) := (OwAll.mono (Same.refl _) (keeps_same e1329) w1316)
                              exact ⟨_, [], [], [], Same.refl _, (S1332.sub (all_cons (.head _) (all_app (L := []) all_nil (all_cons (.tail _ (.tail _ (.tail _ (.head _)))) (all_cons (.tail _ (.tail _ (.tail _ (.tail _ (.tail _ (.tail _ (.head _))))))) (all_cons (.tail _ (.head _)) (all_cons (.tail _ (.tail _ (.head _))) (all_cons (.tail _ (.tail _ (.tail _ (.tail _ (.head _))))) (all_cons (.tail _ (.tail _ (.tail _ (.tail _ (.tail _ (.head _)))))) (all_app ((fun b hb => (.tail _ (.tail _ (.tail _ (.tail _ (.tail _ (.tail _ (.tail _ (List.mem_append_left _ hb))))))))) : ∀ b ∈ L1094, b ∈ (D1322 :: (p838 :: (p904 :: (D980 :: (p1105 :: (p1225 :: (a1238 :: (L1094 ++ (L1240 ++ [])))))))))) (all_app ((fun b hb => (.tail _ (.tail _ (.tail _ (.tail _ (.tail _ (.tail _ (.tail _ (List.mem_append_right _ (List.mem_append_left _ hb)))))))))) : ∀ b ∈ L1240, b ∈ (D1322 :: (p838 :: (p904 :: (D980 :: (p1105 :: (p1225 :: (a1238 :: (L1094 ++ (L1240 ++ [])))))))))) all_nil))))))))))), h1333, h1334, h1335, h1336, h1337, h1338, h1330, w1339, w1340, OwAll.nil, all_nil, all_nil, e1329, hw⟩
                            · intro i H1341 _ hw
                              obtain ⟨G1344, acc1346, vs1347, L1349, eG1345, S1342, h1353, h1354, h1355, h1356, h1357, h1358, h1343, w1359, w1360, d1348, nb1350, nd1351, eo1352, hw⟩ := hw
                              exact (SqL.of h1353)
                            · intro i x H1361 hj hw
                              obtain ⟨G1364, acc1366, vs1367, L1369, eG1365, S1362, h1373, h1374, h1375, h1376, h1377, h1378, h1363, w1379, w1380, d1368, nb1370, nd1371, eo1372, hw⟩ := hw
                              obtain ⟨x1381, L1382, hx, w1383, hs1384⟩ := OwAll.turn w1379 hj
                              obtain ⟨b1385, rfl, rfl, h1386⟩ := Ow.toInts w1383
                              have hv1387 := hj
                              have hx1388 := hx
                              obtain ⟨z1389, hw⟩ := cW_mapA hx hw
                              have hw := cW_noEr hw
                              have hw : cW (F_law_c9  (x1381)) _ (fun _ => False) := hw
                              unfold F_law_c9 at hw
                              refine ⟨rfl, ?_⟩
                              refine tyes_go ?_
                              refine ⟨_, rfl, _, _, rfl, (SqL.of h1386), fun p1391 n1392 => ?_⟩
                              generalize g1393 : upd H1361 p1391 _ = H1394
                              obtain ⟨e1395, h1396⟩ := gen_new n1392 g1393
                              have h1397 : H1394 p1391 = some (.lst ((x1381 : (List Int)).map V.int)) := h1396
                              have fr1398 := S1362.free n1392
                              have S1399 := S1362.new n1392 e1395 h1397 fr1398
                              have w1400 : OwAll G1364 H1394 L1369 (vs1367) ((acc1366 : (List (List Int))).map (oL oI)) := (OwAll.mono (Same.refl _) (keeps_same e1395) d1368)
                              have h1401 := (e1395 _ _ h1363)
                              refine ⟨_, h1401, (app_len (OwAll.rpA w1400 (encO_L encO_I) S1399.sG) z1389), ?_⟩
                              generalize g1402 : upd H1394 D1322 _ = H1403
                              obtain ⟨x1404, h1405⟩ := gen_mut g1402
                              have S1406 := S1399.mut1 x1404 (.tail _ (.head _)) h1405
                              have hw := cW_ok hw
                              have h1407 := (x1404 _ _ (e1395 _ _ h1373) (ne_of_none h1311 n1323))
                              have h1408 := (x1404 _ _ (e1395 _ _ h1374) (ne_of_none h1314 n1323))
                              have h1409 := (x1404 _ _ (e1395 _ _ h1375) (ne_of_none h1309 n1323))
                              have h1410 := (x1404 _ _ (e1395 _ _ h1376) (ne_of_none h1310 n1323))
                              have h1411 := (x1404 _ _ (e1395 _ _ h1377) (ne_of_none h1312 n1323))
                              have h1412 := (x1404 _ _ (e1395 _ _ h1378) (ne_of_none h1313 n1323))
                              have w1413 : OwAll G1364 H1403 L1094 (vs1092) ((acc1091 : (List (List Int))).map (oL oI)) := (OwAll.mono (Same.refl _) (keeps_mut x1404 ((there_ne (fun b_ hb_ => (S1308.ow b_ (((fun b hb => (.tail _ (.tail _ (.tail _ (.tail _ (.tail _ (.tail _ (List.mem_append_left _ hb)))))))) : ∀ b ∈ L1094, b ∈ (p838 :: (p904 :: (D980 :: (p1105 :: (p1225 :: (a1238 :: (L1094 ++ (L1240 ++ []))))))))) b_ hb_)).2.1) n1323) : ∀ b ∈ L1094, b ≠ D1322)) (OwAll.mono (Same.refl _) (keeps_same e1395) w1379))
                              have w1414 : OwAll G1364 H1403 L1240 (vs1239) ((v1235 : (List (List Int))).map (oL oI)) := (OwAll.mono (Same.refl _) (keeps_mut x1404 ((there_ne (fun b_ hb_ => (S1308.ow b_ (((fun b hb => (.tail _ (.tail _ (.tail _ (.tail _ (.tail _ (.tail _ (List.mem_append_right _ (List.mem_append_left _ hb))))))))) : ∀ b ∈ L1240, b ∈ (p838 :: (p904 :: (D980 :: (p1105 :: (p1225 :: (a1238 :: (L1094 ++ (L1240 ++ []))))))))) b_ hb_)).2.1) n1323) : ∀ b ∈ L1240, b ≠ D1322)) (OwAll.mono (Same.refl _) (keeps_same e1395) w1380))
                              exact ⟨_, (acc1366 ++ [x1381]), _, (L1369 ++ (p1391 :: ([] : List Addr))), eG1365, (S1406.sub (all_cons (.tail _ (.head _)) (all_app (all_app ((fun b hb => (.tail _ (.tail _ (List.mem_append_left _ hb)))) : ∀ b ∈ L1369, b ∈ (p1391 :: (D1322 :: (L1369 ++ (D980 :: (a1238 :: (p838 :: (p904 :: (p1105 :: (p1225 :: (L1094 ++ (L1240 ++ [])))))))))))) (all_cons (.head _) all_nil)) (all_cons (.tail _ (.tail _ (List.mem_append_right _ (.head _)))) (all_cons (.tail _ (.tail _ (List.mem_append_right _ (.tail _ (.head _))))) (all_cons (.tail _ (.tail _ (List.mem_append_right _ (.tail _ (.tail _ (.head _)))))) (all_cons (.tail _ (.tail _ (List.mem_append_right _ (.tail _ (.tail _ (.tail _ (.head _))))))) (all_cons (.tail _ (.tail _ (List.mem_append_right _ (.tail _ (.tail _ (.tail _ (.tail _ (.head _)))))))) (all_cons (.tail _ (.tail _ (List.mem_append_right _ (.tail _ (.tail _ (.tail _ (.tail _ (.tail _ (.head _))))))))) (all_app ((fun b hb => (.tail _ (.tail _ (List.mem_append_right _ (.tail _ (.tail _ (.tail _ (.tail _ (.tail _ (.tail _ (List.mem_append_left _ hb))))))))))) : ∀ b ∈ L1094, b ∈ (p1391 :: (D1322 :: (L1369 ++ (D980 :: (a1238 :: (p838 :: (p904 :: (p1105 :: (p1225 :: (L1094 ++ (L1240 ++ [])))))))))))) (all_app ((fun b hb => (.tail _ (.tail _ (List.mem_append_right _ (.tail _ (.tail _ (.tail _ (.tail _ (.tail _ (.tail _ (List.mem_append_right _ (List.mem_append_left _ hb)))))))))))) : ∀ b ∈ L1240, b ∈ (p1391 :: (D1322 :: (L1369 ++ (D980 :: (a1238 :: (p838 :: (p904 :: (p1105 :: (p1225 :: (L1094 ++ (L1240 ++ [])))))))))))) all_nil))))))))))), h1407, h1408, h1409, h1410, h1411, h1412, h1405, w1413, w1414, (OwAll.mono (Same.refl _) (keeps_mut x1404 ((all_app nd1371 (all_cons (ne_of_none h1363 n1392).symm all_nil)) : ∀ b ∈ (L1369 ++ (p1391 :: ([] : List Addr))), b ≠ D1322)) (OwAll.snocM w1400 (Ow.ints h1397) ((fun b hb => (nm_cons ((there_ne (fun b_ hb_ => (S1362.ow b_ (((fun b hb => (.tail _ (List.mem_append_left _ hb))) : ∀ b ∈ L1369, b ∈ (D1322 :: (L1369 ++ (D980 :: (a1238 :: (p838 :: (p904 :: (p1105 :: (p1225 :: (L1094 ++ (L1240 ++ []))))))))))) b_ hb_)).2.1) n1392) b hb) nm_nil)) : ∀ b ∈ L1369, b ∉ (p1391 :: ([] : List Addr))))), ((all_app nb1370 (all_cons (none_of_same eo1372 n1392) all_nil)) : ∀ b ∈ (L1369 ++ (p1391 :: ([] : List Addr))), H1307 b = none), ((all_app nd1371 (all_cons (ne_of_none h1363 n1392).symm all_nil)) : ∀ b ∈ (L1369 ++ (p1391 :: ([] : List Addr))), b ≠ D1322), (same_mut (Same.trans eo1372 e1395) x1404 n1323), hw⟩
                            intro H1415 hw
                            obtain ⟨G1418, acc1420, vs1421, L1423, eG1419, S1416, h1427, h1428, h1429, h1430, h1431, h1432, h1417, w1433, w1434, d1422, nb1424, nd1425, eo1426, hw⟩ := hw
                            have hw := hK1321 _ (cW_mapA0 (by rw [(OwAll.rpA w1433 (encO_L encO_I) S1416.sG).len, List.length_map]) hw)
                            have fr1435 := S1308.free n1323
                            refine ⟨fun σ H' => ∃ (bad_1442 : (List (List Int))) (vs1443 : List V) (L1444 : List Addr) (G' : Hp), σ = [some (V.ref a_script), some (V.int (x814)), some (V.int ((v818 + x814))), some (V.int ((4 + (4 * ((v818 + x814) % 2))))), some (V.ref a831), some (V.ref p838), some (V.ref p904), some (V.ref D980), some (V.str ((PyData.shown ((encL (encL PyData.int)) (acc1091))))), some (V.ref p1105), some (V.ref p1225), some (V.ref a1238), some (V.int (wrong_1274)), some (V.int (count_1302)), some (V.ref D1322), none, none, none, none] ∧ Same G1418 G' ∧ Sep [] H H G' H' (p838 :: (p904 :: (D980 :: (p1105 :: (p1225 :: (a1238 :: (D1322 :: (L1094 ++ (L1240 ++ (L1444 ++ [])))))))))) ∧ H' p838 = some (.lst (vs839 ++ [V.ref p851])) ∧ H' p904 = some (.lst ((digits_903 : (List Int)).map V.int)) ∧ H' D980 = some (.lst (vs1092)) ∧ H' p1105 = some (.lst ((v1102 : (List Int)).map V.int)) ∧ H' p1225 = some (.lst ((v1102 : (List Int)).map V.int)) ∧ H' a1238 = some (.lst (vs1239)) ∧ H' D1322 = some (.lst (vs1443)) ∧ (∀ b ∈ L1444, b ≠ p838) ∧ (∀ b ∈ L1444, b ≠ p904) ∧ (∀ b ∈ L1444, b ≠ D980) ∧ (∀ b ∈ L1444, b ≠ p1105) ∧ (∀ b ∈ L1444, b ≠ p1225) ∧ (∀ b ∈ L1444, b ≠ a1238) ∧ (∀ b ∈ L1444, b ≠ D1322) ∧ (∀ b ∈ L1444, b ∉ L1094) ∧ (∀ b ∈ L1444, b ∉ L1240) ∧ OwAll G' H' L1094 (vs1092) ((acc1091 : (List (List Int))).map (oL oI)) ∧ OwAll G' H' L1240 (vs1239) ((v1235 : (List (List Int))).map (oL oI)) ∧ OwAll G' H' L1444 (vs1443) ((bad_1442 : (List (List Int))).map (oL oI)) ∧ cW (F_law_k10 ((v818 + x814)) ((4 + (4 * ((v818 + x814) % 2)))) (acc1091) (wrong_1274) (count_1302) bad_1442) K815 EE, ?_, ?_⟩
                            · obtain ⟨K1445, hK1446, hw⟩ := cW_push hw
                              refine ⟨_, rfl, _, _, rfl, rfl, (divW_lit (by decide) (by decide)), _, _, rfl, rfl, (show (0 : Int) < 3 by decide), _, _, rfl, rfl, _, rfl, ?_⟩
                              refine iteD (fun c1447 => ?_) (fun c1447 => ?_)
                              · have hw := cW_pos c1447 hw
                                refine ⟨_, rfl, (.inl ⟨rfl, _, SqL.of h1417⟩), (by show 1 ≤ sizeLine; decide), fun p1448 n1449 => ?_⟩
                                generalize g1450 : upd H1415 p1448 _ = H1451
                                obtain ⟨e1452, h1453⟩ := gen_new n1449 g1450
                                have h1454 : H1451 p1448 = some (.lst (([0] : (List Int)).map V.int)) := h1453
                                have fr1455 := S1416.free n1449
                                have S1456 := S1416.new n1449 e1452 h1454 fr1455
                                obtain ⟨g1457, hw⟩ := cW_grd hw
                                refine ⟨_, rfl, _, _, _, rfl, rfl, h1454, g1457.1, g1457.2.1, (rep_lenM g1457.2.2), fun p1458 n1459 => ?_⟩
                                generalize g1460 : upd H1451 p1458 _ = H1461
                                obtain ⟨e1462, h1463⟩ := gen_new n1459 g1460
                                have h1464 : H1461 p1458 = some (.lst ((repL ([0]) ((4 + (4 * ((v818 + x814) % 2)))) : (List Int)).map V.int)) := rep_map h1463
                                have fr1465 := S1456.free n1459
                                have S1466 := S1456.new n1459 e1462 h1464 fr1465
                                obtain ⟨g1467, hw⟩ := cW_grd hw
                                have h1468 := (e1462 _ _ (e1452 _ _ h1417))
                                have w1469 : OwAll G1418 H1461 L1423 (vs1421) ((acc1420 : (List (List Int))).map (oL oI)) := (OwAll.mono (Same.refl _) (keeps_same e1462) (OwAll.mono (Same.refl _) (keeps_same e1452) d1422))
                                refine ⟨_, _, _, rfl, rfl, h1468, (app_len (OwAll.rpA w1469 (encO_L encO_I) S1466.sG) g1467), ?_⟩
                                generalize g1470 : upd H1461 D1322 _ = H1471
                                obtain ⟨x1472, h1473⟩ := gen_mut g1470
                                have h1474 : H1471 D1322 = some (.lst (vs1421 ++ [V.ref p1458])) := h1473
                                have S1475 := S1466.mut1 x1472 (.tail _ (.tail _ (.head _))) h1474
                                have w1476 : OwAll G1418 H1471 (L1423 ++ (p1458 :: ([] : List Addr))) (vs1421 ++ [V.ref p1458]) (((acc1420) ++ [repL ([0]) ((4 + (4 * ((v818 + x814) % 2))))] : (List (List Int))).map (oL oI)) := OwAll.mono (Same.refl _) (keeps_mut x1472 ((all_app nd1425 (all_cons (ne_of_none (e1452 _ _ h1417) n1459).symm all_nil)) : ∀ b ∈ (L1423 ++ (p1458 :: ([] : List Addr))), b ≠ D1322)) (OwAll.snocM w1469 (Ow.ints h1464) ((fun b hb => (nm_cons ((there_ne (fun b_ hb_ => (S1456.ow b_ (((fun b hb => (.tail _ (.tail _ (List.mem_append_left _ hb)))) : ∀ b ∈ L1423, b ∈ (p1448 :: (D1322 :: (L1423 ++ (D980 :: (a1238 :: (p838 :: (p904 :: (p1105 :: (p1225 :: (L1094 ++ (L1240 ++ [])))))))))))) b_ hb_)).2.1) n1459) b hb) nm_nil)) : ∀ b ∈ L1423, b ∉ (p1458 :: ([] : List Addr))))
                                have hw := cW_bnd hw
                                have hw := cW_ok hw
                                have hw := hK1446 _ hw
                                have h1478 := (x1472 _ _ (e1462 _ _ (e1452 _ _ h1429)) (ne_of_none h1309 n1323))
                                have h1479 := (x1472 _ _ (e1462 _ _ (e1452 _ _ h1430)) (ne_of_none h1310 n1323))
                                have h1480 := (x1472 _ _ (e1462 _ _ (e1452 _ _ h1427)) (ne_of_none h1311 n1323))
                                have h1481 := (x1472 _ _ (e1462 _ _ (e1452 _ _ h1431)) (ne_of_none h1312 n1323))
                                have h1482 := (x1472 _ _ (e1462 _ _ (e1452 _ _ h1432)) (ne_of_none h1313 n1323))
                                have h1483 := (x1472 _ _ (e1462 _ _ (e1452 _ _ h1428)) (ne_of_none h1314 n1323))
                                have w1484 : OwAll G1418 H1471 L1094 (vs1092) ((acc1091 : (List (List Int))).map (oL oI)) := (OwAll.mono (Same.refl _) (keeps_mut x1472 ((there_ne (fun b_ hb_ => (S1308.ow b_ (((fun b hb => (.tail _ (.tail _ (.tail _ (.tail _ (.tail _ (.tail _ (List.mem_append_left _ hb)))))))) : ∀ b ∈ L1094, b ∈ (p838 :: (p904 :: (D980 :: (p1105 :: (p1225 :: (a1238 :: (L1094 ++ (L1240 ++ []))))))))) b_ hb_)).2.1) n1323) : ∀ b ∈ L1094, b ≠ D1322)) (OwAll.mono (Same.refl _) (keeps_same e1462) (OwAll.mono (Same.refl _) (keeps_same e1452) w1433)))
                                have w1485 : OwAll G1418 H1471 L1240 (vs1239) ((v1235 : (List (List Int))).map (oL oI)) := (OwAll.mono (Same.refl _) (keeps_mut x1472 ((there_ne (fun b_ hb_ => (S1308.ow b_ (((fun b hb => (.tail _ (.tail _ (.tail _ (.tail _ (.tail _ (.tail _ (List.mem_append_right _ (List.mem_append_left _ hb))))))))) : ∀ b ∈ L1240, b ∈ (p838 :: (p904 :: (D980 :: (p1105 :: (p1225 :: (a1238 :: (L1094 ++ (L1240 ++ []))))))))) b_ hb_)).2.1) n1323) : ∀ b ∈ L1240, b ≠ D1322)) (OwAll.mono (Same.refl _) (keeps_same e1462) (OwAll.mono (Same.refl _) (keeps_same e1452) w1434)))
                                exact ⟨((acc1420) ++ [repL ([0]) ((4 + (4 * ((v818 + x814) % 2))))]), (vs1421 ++ [V.ref p1458]), (L1423 ++ (p1458 :: ([] : List Addr))), _, rfl, (Same.refl _), (S1475.sub (all_cons (.tail _ (.tail _ (.tail _ (List.mem_append_right _ (.tail _ (.tail _ (.head _))))))) (all_cons (.tail _ (.tail _ (.tail _ (List.mem_append_right _ (.tail _ (.tail _ (.tail _ (.head _)))))))) (all_cons (.tail _ (.tail _ (.tail _ (List.mem_append_right _ (.head _))))) (all_cons (.tail _ (.tail _ (.tail _ (List.mem_append_right _ (.tail _ (.tail _ (.tail _ (.tail _ (.head _))))))))) (all_cons (.tail _ (.tail _ (.tail _ (List.mem_append_right _ (.tail _ (.tail _ (.tail _ (.tail _ (.tail _ (.head _)))))))))) (all_cons (.tail _ (.tail _ (.tail _ (List.mem_append_right _ (.tail _ (.head _)))))) (all_cons (.tail _ (.tail _ (.head _))) (all_app ((fun b hb => (.tail _ (.tail _ (.tail _ (List.mem_append_right _ (.tail _ (.tail _ (.tail _ (.tail _ (.tail _ (.tail _ (List.mem_append_left _ hb)))))))))))) : ∀ b ∈ L1094, b ∈ (p1458 :: (p1448 :: (D1322 :: (L1423 ++ (D980 :: (a1238 :: (p838 :: (p904 :: (p1105 :: (p1225 :: (L1094 ++ (L1240 ++ []))))))))))))) (all_app ((fun b hb => (.tail _ (.tail _ (.tail _ (List.mem_append_right _ (.tail _ (.tail _ (.tail _ (.tail _ (.tail _ (.tail _ (List.mem_append_right _ (List.mem_append_left _ hb))))))))))))) : ∀ b ∈ L1240, b ∈ (p1458 :: (p1448 :: (D1322 :: (L1423 ++ (D980 :: (a1238 :: (p838 :: (p904 :: (p1105 :: (p1225 :: (L1094 ++ (L1240 ++ []))))))))))))) (all_app (all_app ((fun b hb => (.tail _ (.tail _ (.tail _ (List.mem_append_left _ hb))))) : ∀ b ∈ L1423, b ∈ (p1458 :: (p1448 :: (D1322 :: (L1423 ++ (D980 :: (a1238 :: (p838 :: (p904 :: (p1105 :: (p1225 :: (L1094 ++ (L1240 ++ []))))))))))))) (all_cons (.head _) all_nil)) all_nil))))))))))), h1478, h1479, h1480, h1481, h1482, h1483, h1474, (all_app (new_ne2 nb1424 (S1308.ow _ (.head _)).2.1) (all_cons (ne_of_none (e1452 _ _ h1429) n1459).symm all_nil)), (all_app (new_ne2 nb1424 (S1308.ow _ (.tail _ (.head _))).2.1) (all_cons (ne_of_none (e1452 _ _ h1430) n1459).symm all_nil)), (all_app (new_ne2 nb1424 (S1308.ow _ (.tail _ (.tail _ (.head _)))).2.1) (all_cons (ne_of_none (e1452 _ _ h1427) n1459).symm all_nil)), (all_app (new_ne2 nb1424 (S1308.ow _ (.tail _ (.tail _ (.tail _ (.head _))))).2.1) (all_cons (ne_of_none (e1452 _ _ h1431) n1459).symm all_nil)), (all_app (new_ne2 nb1424 (S1308.ow _ (.tail _ (.tail _ (.tail _ (.tail _ (.head _)))))).2.1) (all_cons (ne_of_none (e1452 _ _ h1432) n1459).symm all_nil)), (all_app (new_ne2 nb1424 (S1308.ow _ (.tail _ (.tail _ (.tail _ (.tail _ (.tail _ (.head _))))))).2.1) (all_cons (ne_of_none (e1452 _ _ h1428) n1459).symm all_nil)), (all_app nd1425 (all_cons (ne_of_none (e1452 _ _ h1417) n1459).symm all_nil)), (all_app (new_nl nb1424 (fun b_ hb_ => (S1308.ow b_ (((fun b hb => (.tail _ (.tail _ (.tail _ (.tail _ (.tail _ (.tail _ (List.mem_append_left _ hb)))))))) : ∀ b ∈ L1094, b ∈ (p838 :: (p904 :: (D980 :: (p1105 :: (p1225 :: (a1238 :: (L1094 ++ (L1240 ++ []))))))))) b_ hb_)).2.1)) (all_cons (fun z => (there_ne (fun b_ hb_ => (S1456.ow b_ (((fun b hb => (.tail _ (.tail _ (List.mem_append_right _ (.tail _ (.tail _ (.tail _ (.tail _ (.tail _ (.tail _ (List.mem_append_left _ hb))))))))))) : ∀ b ∈ L1094, b ∈ (p1448 :: (D1322 :: (L1423 ++ (D980 :: (a1238 :: (p838 :: (p904 :: (p1105 :: (p1225 :: (L1094 ++ (L1240 ++ [])))))))))))) b_ hb_)).2.1) n1459) _ z rfl) all_nil)), (all_app (new_nl nb1424 (fun b_ hb_ => (S1308.ow b_ (((fun b hb => (.tail _ (.tail _ (.tail _ (.tail _ (.tail _ (.tail _ (List.mem_append_right _ (List.mem_append_left _ hb))))))))) : ∀ b ∈ L1240, b ∈ (p838 :: (p904 :: (D980 :: (p1105 :: (p1225 :: (a1238 :: (L1094 ++ (L1240 ++ []))))))))) b_ hb_)).2.1)) (all_cons (fun z => (there_ne (fun b_ hb_ => (S1456.ow b_ (((fun b hb => (.tail _ (.tail _ (List.mem_append_right _ (.tail _ (.tail _ (.tail _ (.tail _ (.tail _ (.tail _ (List.mem_append_right _ (List.mem_append_left _ hb)))))))))))) : ∀ b ∈ L1240, b ∈ (p1448 :: (D1322 :: (L1423 ++ (D980 :: (a1238 :: (p838 :: (p904 :: (p1105 :: (p1225 :: (L1094 ++ (L1240 ++ [])))))))))))) b_ hb_)).2.1) n1459) _ z rfl) all_nil)), w1484, w1485, w1476, hw⟩
                              · have hw := cW_neg c1447 hw
                                refine ⟨_, rfl, _, _, rfl, rfl, (divW_lit (by decide) (by decide)), _, _, rfl, rfl, (show (0 : Int) < 3 by decide), _, _, rfl, rfl, _, rfl, ?_⟩
                                refine iteD (fun c1486 => ?_) (fun c1486 => ?_)
                                · have hw := cW_pos c1486 hw
                                  obtain ⟨g1487, hw⟩ := cW_grd hw
                                  obtain ⟨g1488, hw⟩ := cW_grd hw
                                  obtain ⟨v1489, L1490, a1491, w1492, hs1493, up1494, gr1495⟩ := OwAll.partM (k := (((v818 + x814) / 51) % (4 + (4 * ((v818 + x814) % 2))))) d1422 g1488
                                  obtain ⟨b1496, rfl, rfl, h1497⟩ := Ow.toInts w1492
                                  obtain ⟨g1498, hw⟩ := cW_grd hw
                                  refine ⟨_, rfl, _, rfl, _, _, rfl, rfl, (divW_lit (by decide) (by decide)), _, rfl, _, _, rfl, rfl, g1487, _, _, _, _, rfl, rfl, (SqL.of h1417), a1491, (.inl ⟨rfl, _, SqL.of h1497⟩), _, _, _, rfl, rfl, h1497, (app_lenM g1498), ?_⟩
                                  generalize g1499 : upd H1415 b1496 _ = H1500
                                  obtain ⟨x1501, h1502⟩ := gen_mut g1499
                                  have h1503 : H1500 b1496 = some (.lst ((((itD (acc1420) ((((v818 + x814) / 51) % (4 + (4 * ((v818 + x814) % 2))))))) ++ [0] : (List Int)).map V.int)) := snoc_map h1502
                                  have S1504 := S1416.mut1 x1501 ((((fun b hb => (.tail _ (List.mem_append_left _ hb))) : ∀ b ∈ L1423, b ∈ (D1322 :: (L1423 ++ (D980 :: (a1238 :: (p838 :: (p904 :: (p1105 :: (p1225 :: (L1094 ++ (L1240 ++ []))))))))))) : ∀ b ∈ L1423, b ∈ (D1322 :: (L1423 ++ (D980 :: (a1238 :: (p838 :: (p904 :: (p1105 :: (p1225 :: (L1094 ++ (L1240 ++ []))))))))))) _ (hs1493 _ List.mem_cons_self)) h1503
                                  have w1505 : OwAll G1418 H1500 L1423 (vs1421) ((setL (acc1420) ((((v818 + x814) / 51) % (4 + (4 * ((v818 + x814) % 2))))) (((itD (acc1420) ((((v818 + x814) / 51) % (4 + (4 * ((v818 + x814) % 2))))))) ++ [0]) : (List (List Int))).map (oL oI)) := upd_tree up1494 x1501 List.mem_cons_self (Ow.ints h1503)
                                  have hw := cW_bnd hw
                                  have hw := cW_ok hw
                                  have hw := hK1446 _ hw
                                  have h1507 := (x1501 _ _ h1429 ((new_ne2 nb1424 (S1308.ow _ (.head _)).2.1) _ (hs1493 _ List.mem_cons_self)).symm)
                                  have h1508 := (x1501 _ _ h1430 ((new_ne2 nb1424 (S1308.ow _ (.tail _ (.head _))).2.1) _ (hs1493 _ List.mem_cons_self)).symm)
                                  have h1509 := (x1501 _ _ h1427 ((new_ne2 nb1424 (S1308.ow _ (.tail _ (.tail _ (.head _)))).2.1) _ (hs1493 _ List.mem_cons_self)).symm)
                                  have h1510 := (x1501 _ _ h1431 ((new_ne2 nb1424 (S1308.ow _ (.tail _ (.tail _ (.tail _ (.head _))))).2.1) _ (hs1493 _ List.mem_cons_self)).symm)
                                  have h1511 := (x1501 _ _ h1432 ((new_ne2 nb1424 (S1308.ow _ (.tail _ (.tail _ (.tail _ (.tail _ (.head _)))))).2.1) _ (hs1493 _ List.mem_cons_self)).symm)
                                  have h1512 := (x1501 _ _ h1428 ((new_ne2 nb1424 (S1308.ow _ (.tail _ (.tail _ (.tail _ (.tail _ (.tail _ (.head _))))))).2.1) _ (hs1493 _ List.mem_cons_self)).symm)
                                  have h1513 := (x1501 _ _ h1417 (nd1425 _ (hs1493 _ List.mem_cons_self)).symm)
                                  have w1514 : OwAll G1418 H1500 L1094 (vs1092) ((acc1091 : (List (List Int))).map (oL oI)) := (OwAll.mono (Same.refl _) (keeps_mut x1501 ((fun b hb z => (fun b hb => ((nl_symm (new_nl nb1424 (fun b_ hb_ => (S1308.ow b_ (((fun b hb => (.tail _ (.tail _ (.tail _ (.tail _ (.tail _ (.tail _ (List.mem_append_left _ hb)))))))) : ∀ b ∈ L1094, b ∈ (p838 :: (p904 :: (D980 :: (p1105 :: (p1225 :: (a1238 :: (L1094 ++ (L1240 ++ []))))))))) b_ hb_)).2.1))) b hb)) b hb (z ▸ (hs1493 _ List.mem_cons_self))) : ∀ b ∈ L1094, b ≠ b1496)) w1433)
                                  have w1515 : OwAll G1418 H1500 L1240 (vs1239) ((v1235 : (List (List Int))).map (oL oI)) := (OwAll.mono (Same.refl _) (keeps_mut x1501 ((fun b hb z => (fun b hb => ((nl_symm (new_nl nb1424 (fun b_ hb_ => (S1308.ow b_ (((fun b hb => (.tail _ (.tail _ (.tail _ (.tail _ (.tail _ (.tail _ (List.mem_append_right _ (List.mem_append_left _ hb))))))))) : ∀ b ∈ L1240, b ∈ (p838 :: (p904 :: (D980 :: (p1105 :: (p1225 :: (a1238 :: (L1094 ++ (L1240 ++ []))))))))) b_ hb_)).2.1))) b hb)) b hb (z ▸ (hs1493 _ List.mem_cons_self))) : ∀ b ∈ L1240, b ≠ b1496)) w1434)
                                  exact ⟨(setL (acc1420) ((((v818 + x814) / 51) % (4 + (4 * ((v818 + x814) % 2))))) (((itD (acc1420) ((((v818 + x814) / 51) % (4 + (4 * ((v818 + x814) % 2))))))) ++ [0])), (vs1421), L1423, _, rfl, (Same.refl _), (S1504.sub (all_cons (.tail _ (List.mem_append_right _ (.tail _ (.tail _ (.head _))))) (all_cons (.tail _ (List.mem_append_right _ (.tail _ (.tail _ (.tail _ (.head _)))))) (all_cons (.tail _ (List.mem_append_right _ (.head _))) (all_cons (.tail _ (List.mem_append_right _ (.tail _ (.tail _ (.tail _ (.tail _ (.head _))))))) (all_cons (.tail _ (List.mem_append_right _ (.tail _ (.tail _ (.tail _ (.tail _ (.tail _ (.head _)))))))) (all_cons (.tail _ (List.mem_append_right _ (.tail _ (.head _)))) (all_cons (.head _) (all_app ((fun b hb => (.tail _ (List.mem_append_right _ (.tail _ (.tail _ (.tail _ (.tail _ (.tail _ (.tail _ (List.mem_append_left _ hb)))))))))) : ∀ b ∈ L1094, b ∈ (D1322 :: (L1423 ++ (D980 :: (a1238 :: (p838 :: (p904 :: (p1105 :: (p1225 :: (L1094 ++ (L1240 ++ []))))))))))) (all_app ((fun b hb => (.tail _ (List.mem_append_right _ (.tail _ (.tail _ (.tail _ (.tail _ (.tail _ (.tail _ (List.mem_append_right _ (List.mem_append_left _ hb))))))))))) : ∀ b ∈ L1240, b ∈ (D1322 :: (L1423 ++ (D980 :: (a1238 :: (p838 :: (p904 :: (p1105 :: (p1225 :: (L1094 ++ (L1240 ++ []))))))))))) (all_app ((fun b hb => (.tail _ (List.mem_append_left _ hb))) : ∀ b ∈ L1423, b ∈ (D1322 :: (L1423 ++ (D980 :: (a1238 :: (p838 :: (p904 :: (p1105 :: (p1225 :: (L1094 ++ (L1240 ++ []))))))))))) all_nil))))))))))), h1507, h1508, h1509, h1510, h1511, h1512, h1513, (new_ne2 nb1424 (S1308.ow _ (.head _)).2.1), (new_ne2 nb1424 (S1308.ow _ (.tail _ (.head _))).2.1), (new_ne2 nb1424 (S1308.ow _ (.tail _ (.tail _ (.head _)))).2.1), (new_ne2 nb1424 (S1308.ow _ (.tail _ (.tail _ (.tail _ (.head _))))).2.1), (new_ne2 nb1424 (S1308.ow _ (.tail _ (.tail _ (.tail _ (.tail _ (.head _)))))).2.1), (new_ne2 nb1424 (S1308.ow _ (.tail _ (.tail _ (.tail _ (.tail _ (.tail _ (.head _))))))).2.1), nd1425, (new_nl nb1424 (fun b_ hb_ => (S1308.ow b_ (((fun b hb => (.tail _ (.tail _ (.tail _ (.tail _ (.tail _ (.tail _ (List.mem_append_left _ hb)))))))) : ∀ b ∈ L1094, b ∈ (p838 :: (p904 :: (D980 :: (p1105 :: (p1225 :: (a1238 :: (L1094 ++ (L1240 ++ []))))))))) b_ hb_)).2.1)), (new_nl nb1424 (fun b_ hb_ => (S1308.ow b_ (((fun b hb => (.tail _ (.tail _ (.tail _ (.tail _ (.tail _ (.tail _ (List.mem_append_right _ (List.mem_append_left _ hb))))))))) : ∀ b ∈ L1240, b ∈ (p838 :: (p904 :: (D980 :: (p1105 :: (p1225 :: (a1238 :: (L1094 ++ (L1240 ++ []))))))))) b_ hb_)).2.1)), w1514, w1515, w1505, hw⟩
                                · have hw := cW_neg c1486 hw
                                  obtain ⟨g1516, hw⟩ := cW_grd hw
                                  obtain ⟨g1517, hw⟩ := cW_grd hw
                                  obtain ⟨v1518, L1519, a1520, w1521, hs1522, up1523, gr1524⟩ := OwAll.partM (k := (((v818 + x814) / 51) % (4 + (4 * ((v818 + x814) % 2))))) d1422 g1517
                                  obtain ⟨b1525, rfl, rfl, h1526⟩ := Ow.toInts w1521
                                  refine ⟨_, rfl, _, rfl, _, _, rfl, rfl, (divW_lit (by decide) (by decide)), _, rfl, _, _, rfl, rfl, g1516, _, _, _, _, rfl, rfl, (SqL.of h1417), a1520, _, rfl, _, _, rfl, (SqL.of h1526), fun p1527 n1528 => ?_⟩
                                  generalize g1529 : upd H1415 p1527 _ = H1530
                                  obtain ⟨e1531, h1532⟩ := gen_new n1528 g1529
                                  have h1533 : H1530 p1527 = some (.lst ((cutL ((itD (acc1420) ((((v818 + x814) / 51) % (4 + (4 * ((v818 + x814) % 2))))))) (some (1)) none : (List Int)).map V.int)) := cut_map h1532
                                  have fr1534 := S1416.free n1528
                                  have S1535 := S1416.new n1528 e1531 h1533 fr1534
                                  obtain ⟨g1536, hw⟩ := cW_grd hw
                                  obtain ⟨g1537, hw⟩ := cW_grd hw
                                  have w1538 : OwAll G1418 H1530 L1423 (vs1421) ((acc1420 : (List (List Int))).map (oL oI)) := (OwAll.mono (Same.refl _) (keeps_same e1531) d1422)
                                  have h1539 := (e1531 _ _ h1417)
                                  refine ⟨_, rfl, _, rfl, _, _, rfl, rfl, (divW_lit (by decide) (by decide)), _, rfl, _, _, rfl, rfl, g1536, _, _, _, _, rfl, rfl, h1539, (ixN_len w1538.lenM g1537), ?_⟩
                                  obtain ⟨L1540, hL1541, w1542⟩ := OwAll.setM w1538 g1537 (Ow.ints h1533) ((all_cons (fun z => (there_ne (fun b_ hb_ => (S1416.ow b_ (((fun b hb => (.tail _ (List.mem_append_left _ hb))) : ∀ b ∈ L1423, b ∈ (D1322 :: (L1423 ++ (D980 :: (a1238 :: (p838 :: (p904 :: (p1105 :: (p1225 :: (L1094 ++ (L1240 ++ []))))))))))) b_ hb_)).2.1) n1528) _ z rfl) all_nil) : ∀ b ∈ (p1527 :: ([] : List Addr)), b ∉ L1423)
                                  generalize g1544 : upd H1530 D1322 _ = H1545
                                  obtain ⟨x1546, h1547⟩ := gen_mut g1544
                                  have h1548 : H1545 D1322 = some (.lst ((vs1421).set ((ixN (vs1421).length ((((v818 + x814) / 51) % (4 + (4 * ((v818 + x814) % 2)))))).getD 0) (V.ref p1527))) := h1547
                                  have S1549 := S1535.mut1 x1546 (.tail _ (.head _)) h1548
                                  have w1543 : OwAll G1418 H1545 L1540 ((vs1421).set ((ixN (vs1421).length ((((v818 + x814) / 51) % (4 + (4 * ((v818 + x814) % 2)))))).getD 0) (V.ref p1527)) ((setL (acc1420) ((((v818 + x814) / 51) % (4 + (4 * ((v818 + x814) % 2))))) (cutL ((itD (acc1420) ((((v818 + x814) / 51) % (4 + (4 * ((v818 + x814) % 2))))))) (some (1)) none) : (List (List Int))).map (oL oI)) := OwAll.mono (Same.refl _) (keeps_mut x1546 ((fun b hb => ((all_app nd1425 (all_cons (ne_of_none h1417 n1528).symm all_nil)) : ∀ b ∈ (L1423 ++ (p1527 :: ([] : List Addr))), b ≠ D1322) b (hL1541 b hb)) : ∀ b ∈ L1540, b ≠ D1322)) w1542
                                  have hw := cW_bnd hw
                                  have hw := cW_ok hw
                                  have hw := hK1446 _ hw
                                  have h1551 := (x1546 _ _ (e1531 _ _ h1429) (ne_of_none h1309 n1323))
                                  have h1552 := (x1546 _ _ (e1531 _ _ h1430) (ne_of_none h1310 n1323))
                                  have h1553 := (x1546 _ _ (e1531 _ _ h1427) (ne_of_none h1311 n1323))
                                  have h1554 := (x1546 _ _ (e1531 _ _ h1431) (ne_of_none h1312 n1323))
                                  have h1555 := (x1546 _ _ (e1531 _ _ h1432) (ne_of_none h1313 n1323))
                                  have h1556 := (x1546 _ _ (e1531 _ _ h1428) (ne_of_none h1314 n1323))
                                  have w1557 : OwAll G1418 H1545 L1094 (vs1092) ((acc1091 : (List (List Int))).map (oL oI)) := (OwAll.mono (Same.refl _) (keeps_mut x1546 ((there_ne (fun b_ hb_ => (S1308.ow b_ (((fun b hb => (.tail _ (.tail _ (.tail _ (.tail _ (.tail _ (.tail _ (List.mem_append_left _ hb)))))))) : ∀ b ∈ L1094, b ∈ (p838 :: (p904 :: (D980 :: (p1105 :: (p1225 :: (a1238 :: (L1094 ++ (L1240 ++ []))))))))) b_ hb_)).2.1) n1323) : ∀ b ∈ L1094, b ≠ D1322)) (OwAll.mono (Same.refl _) (keeps_same e1531) w1433))
                                  have w1558 : OwAll G1418 H1545 L1240 (vs1239) ((v1235 : (List (List Int))).map (oL oI)) := (OwAll.mono (Same.refl _) (keeps_mut x1546 ((there_ne (fun b_ hb_ => (S1308.ow b_ (((fun b hb => (.tail _ (.tail _ (.tail _ (.tail _ (.tail _ (.tail _ (List.mem_append_right _ (List.mem_append_left _ hb))))))))) : ∀ b ∈ L1240, b ∈ (p838 :: (p904 :: (D980 :: (p1105 :: (p1225 :: (a1238 :: (L1094 ++ (L1240 ++ []))))))))) b_ hb_)).2.1) n1323) : ∀ b ∈ L1240, b ≠ D1322)) (OwAll.mono (Same.refl _) (keeps_same e1531) w1434))
                                  exact ⟨(setL (acc1420) ((((v818 + x814) / 51) % (4 + (4 * ((v818 + x814) % 2))))) (cutL ((itD (acc1420) ((((v818 + x814) / 51) % (4 + (4 * ((v818 + x814) % 2))))))) (some (1)) none)), ((vs1421).set ((ixN (vs1421).length ((((v818 + x814) / 51) % (4 + (4 * ((v818 + x814) % 2)))))).getD 0) (V.ref p1527)), L1540, _, rfl, (Same.refl _), (S1549.sub (all_cons (.tail _ (.tail _ (List.mem_append_right _ (.tail _ (.tail _ (.head _)))))) (all_cons (.tail _ (.tail _ (List.mem_append_right _ (.tail _ (.tail _ (.tail _ (.head _))))))) (all_cons (.tail _ (.tail _ (List.mem_append_right _ (.head _)))) (all_cons (.tail _ (.tail _ (List.mem_append_right _ (.tail _ (.tail _ (.tail _ (.tail _ (.head _)))))))) (all_cons (.tail _ (.tail _ (List.mem_append_right _ (.tail _ (.tail _ (.tail _ (.tail _ (.tail _ (.head _))))))))) (all_cons (.tail _ (.tail _ (List.mem_append_right _ (.tail _ (.head _))))) (all_cons (.tail _ (.head _)) (all_app ((fun b hb => (.tail _ (.tail _ (List.mem_append_right _ (.tail _ (.tail _ (.tail _ (.tail _ (.tail _ (.tail _ (List.mem_append_left _ hb))))))))))) : ∀ b ∈ L1094, b ∈ (p1527 :: (D1322 :: (L1423 ++ (D980 :: (a1238 :: (p838 :: (p904 :: (p1105 :: (p1225 :: (L1094 ++ (L1240 ++ [])))))))))))) (all_app ((fun b hb => (.tail _ (.tail _ (List.mem_append_right _ (.tail _ (.tail _ (.tail _ (.tail _ (.tail _ (.tail _ (List.mem_append_right _ (List.mem_append_left _ hb)))))))))))) : ∀ b ∈ L1240, b ∈ (p1527 :: (D1322 :: (L1423 ++ (D980 :: (a1238 :: (p838 :: (p904 :: (p1105 :: (p1225 :: (L1094 ++ (L1240 ++ [])))))))))))) (all_app (fun b hb => ((all_app ((fun b hb => (.tail _ (.tail _ (List.mem_append_left _ hb)))) : ∀ b ∈ L1423, b ∈ (p1527 :: (D1322 :: (L1423 ++ (D980 :: (a1238 :: (p838 :: (p904 :: (p1105 :: (p1225 :: (L1094 ++ (L1240 ++ [])))))))))))) (all_cons (.head _) all_nil)) : ∀ b ∈ (L1423 ++ (p1527 :: ([] : List Addr))), b ∈ (p1527 :: (D1322 :: (L1423 ++ (D980 :: (a1238 :: (p838 :: (p904 :: (p1105 :: (p1225 :: (L1094 ++ (L1240 ++ [])))))))))))) b (hL1541 b hb)) all_nil))))))))))), h1551, h1552, h1553, h1554, h1555, h1556, h1548, (fun b hb => ((all_app (new_ne2 nb1424 (S1308.ow _ (.head _)).2.1) (all_cons (ne_of_none h1429 n1528).symm all_nil)) : ∀ b ∈ (L1423 ++ (p1527 :: ([] : List Addr))), b ≠ p838) b (hL1541 b hb)), (fun b hb => ((all_app (new_ne2 nb1424 (S1308.ow _ (.tail _ (.head _))).2.1) (all_cons (ne_of_none h1430 n1528).symm all_nil)) : ∀ b ∈ (L1423 ++ (p1527 :: ([] : List Addr))), b ≠ p904) b (hL1541 b hb)), (fun b hb => ((all_app (new_ne2 nb1424 (S1308.ow _ (.tail _ (.tail _ (.head _)))).2.1) (all_cons (ne_of_none h1427 n1528).symm all_nil)) : ∀ b ∈ (L1423 ++ (p1527 :: ([] : List Addr))), b ≠ D980) b (hL1541 b hb)), (fun b hb => ((all_app (new_ne2 nb1424 (S1308.ow _ (.tail _ (.tail _ (.tail _ (.head _))))).2.1) (all_cons (ne_of_none h1431 n1528).symm all_nil)) : ∀ b ∈ (L1423 ++ (p1527 :: ([] : List Addr))), b ≠ p1105) b (hL1541 b hb)), (fun b hb => ((all_app (new_ne2 nb1424 (S1308.ow _ (.tail _ (.tail _ (.tail _ (.tail _ (.head _)))))).2.1) (all_cons (ne_of_none h1432 n1528).symm all_nil)) : ∀ b ∈ (L1423 ++ (p1527 :: ([] : List Addr))), b ≠ p1225) b (hL1541 b hb)), (fun b hb => ((all_app (new_ne2 nb1424 (S1308.ow _ (.tail _ (.tail _ (.tail _ (.tail _ (.tail _ (.head _))))))).2.1) (all_cons (ne_of_none h1428 n1528).symm all_nil)) : ∀ b ∈ (L1423 ++ (p1527 :: ([] : List Addr))), b ≠ a1238) b (hL1541 b hb)), (fun b hb => ((all_app nd1425 (all_cons (ne_of_none h1417 n1528).symm all_nil)) : ∀ b ∈ (L1423 ++ (p1527 :: ([] : List Addr))), b ≠ D1322) b (hL1541 b hb)), (fun c hc => ((all_app (new_nl nb1424 (fun b_ hb_ => (S1308.ow b_ (((fun b hb => (.tail _ (.tail _ (.tail _ (.tail _ (.tail _ (.tail _ (List.mem_append_left _ hb)))))))) : ∀ b ∈ L1094, b ∈ (p838 :: (p904 :: (D980 :: (p1105 :: (p1225 :: (a1238 :: (L1094 ++ (L1240 ++ []))))))))) b_ hb_)).2.1)) (all_cons (fun z => (there_ne (fun b_ hb_ => (S1416.ow b_ (((fun b hb => (.tail _ (List.mem_append_right _ (.tail _ (.tail _ (.tail _ (.tail _ (.tail _ (.tail _ (List.mem_append_left _ hb)))))))))) : ∀ b ∈ L1094, b ∈ (D1322 :: (L1423 ++ (D980 :: (a1238 :: (p838 :: (p904 :: (p1105 :: (p1225 :: (L1094 ++ (L1240 ++ []))))))))))) b_ hb_)).2.1) n1528) _ z rfl) all_nil)) : ∀ c ∈ (L1423 ++ (p1527 :: ([] : List Addr))), c ∉ L1094) c (hL1541 c hc)), (fun c hc => ((all_app (new_nl nb1424 (fun b_ hb_ => (S1308.ow b_ (((fun b hb => (.tail _ (.tail _ (.tail _ (.tail _ (.tail _ (.tail _ (List.mem_append_right _ (List.mem_append_left _ hb))))))))) : ∀ b ∈ L1240, b ∈ (p838 :: (p904 :: (D980 :: (p1105 :: (p1225 :: (a1238 :: (L1094 ++ (L1240 ++ []))))))))) b_ hb_)).2.1)) (all_cons (fun z => (there_ne (fun b_ hb_ => (S1416.ow b_ (((fun b hb => (.tail _ (List.mem_append_right _ (.tail _ (.tail _ (.tail _ (.tail _ (.tail _ (.tail _ (List.mem_append_right _ (List.mem_append_left _ hb))))))))))) : ∀ b ∈ L1240, b ∈ (D1322 :: (L1423 ++ (D980 :: (a1238 :: (p838 :: (p904 :: (p1105 :: (p1225 :: (L1094 ++ (L1240 ++ []))))))))))) b_ hb_)).2.1) n1528) _ z rfl) all_nil)) : ∀ c ∈ (L1423 ++ (p1527 :: ([] : List Addr))), c ∉ L1240) c (hL1541 c hc)), w1557, w1558, w1543, hw⟩
                            · intro σ H1559 hw
                              obtain ⟨bad_1442, vs1443, L1444, G1580, rfl, eG1581, S1560, h1561, h1562, h1563, h1564, h1565, h1566, h1567, ne1568, ne1569, ne1570, ne1571, ne1572, ne1573, ne1574, ne1575, ne1576, w1577, w1578, w1579, hw⟩ := hw
                              unfold F_law_k10 at hw
                              obtain ⟨g1582, hw⟩ := cW_grd hw
                              obtain ⟨K1585, hK1586, hw⟩ := cW_push hw
                              refine ⟨_, rfl, _, rfl, _, rfl, _, rfl, g1582.1, g1582.2, fun D1587 n1588 => lc_range (lo := 0) (n := Int.toNat (wrong_1274)) (fun i H' => ∃ (G' : Hp) (acc1590 : (List (List Int))) (vs1591 : List V), Same G1580 G' ∧ Sep [] H H G' H' (D1587 :: (D980 :: (a1238 :: (D1322 :: (p838 :: (p904 :: (p1105 :: (p1225 :: (L1094 ++ (L1240 ++ (L1444 ++ []))))))))))) ∧ H' D980 = some (.lst (vs1092)) ∧ H' a1238 = some (.lst (vs1239)) ∧ H' D1322 = some (.lst (vs1443)) ∧ H' p838 = some (.lst (vs839 ++ [V.ref p851])) ∧ H' p904 = some (.lst ((digits_903 : (List Int)).map V.int)) ∧ H' p1105 = some (.lst ((v1102 : (List Int)).map V.int)) ∧ H' p1225 = some (.lst ((v1102 : (List Int)).map V.int)) ∧ H' D1587 = some (.lst vs1591) ∧ OwAll G' H' L1094 (vs1092) ((acc1091 : (List (List Int))).map (oL oI)) ∧ OwAll G' H' L1240 (vs1239) ((v1235 : (List (List Int))).map (oL oI)) ∧ OwAll G' H' L1444 (vs1443) ((bad_1442 : (List (List Int))).map (oL oI)) ∧ RpAll G' vs1591 ((acc1590 : (List (List Int))).map (encL PyData.int)) ∧ Same H1559 H' ∧ cW (mapA (List.drop i (rng (0) (Int.toNat (wrong_1274)))) acc1590 (fun x => noEr (F_law_c11 (wrong_1274) x))) K1585 EE) ?_ ?_ ?_⟩
                              · generalize g1592 : upd H1559 D1587 _ = H1593
                                obtain ⟨e1594, h1595⟩ := gen_new n1588 g1592
                                have fr1596 := S1560.free n1588
                                have S1597 := S1560.new n1588 e1594 h1595 fr1596
                                have h1598 := (e1594 _ _ h1563)
                                have h1599 := (e1594 _ _ h1566)
                                have h1600 := (e1594 _ _ h1567)
                                have h1601 := (e1594 _ _ h1561)
                                have h1602 := (e1594 _ _ h1562)
                                have h1603 := (e1594 _ _ h1564)
                                have h1604 := (e1594 _ _ h1565)
                                have w1605 : OwAll G1580 H1593 L1094 (vs1092) ((acc1091 : (List (List Int))).map (oL oI)) := (OwAll.mono (Same.refl _) (keeps_same e1594) w1577)
                                have w1606 : OwAll G1580 H1593 L1240 (vs1239) ((v1235 : (List (List Int))).map (oL oI)) := (OwAll.mono (Same.refl _) (keeps_same e1594) w1578)
                                have w1607 : OwAll G1580 H1593 L1444 (vs1443) ((bad_1442 : (List (List Int))).map (oL oI)) := (OwAll.mono (Same.refl _) (keeps_same e1594) w1579)
                                exact ⟨_, [], [], Same.refl _, (S1597.sub (all_cons (.head _) (all_cons (.tail _ (.tail _ (.tail _ (.head _)))) (all_cons (.tail _ (.tail _ (.tail _ (.tail _ (.tail _ (.tail _ (.head _))))))) (all_cons (.tail _ (.tail _ (.tail _ (.tail _ (.tail _ (.tail _ (.tail _ (.head _)))))))) (all_cons (.tail _ (.head _)) (all_cons (.tail _ (.tail _ (.head _))) (all_cons (.tail _ (.tail _ (.tail _ (.tail _ (.head _))))) (all_cons (.tail _ (.tail _ (.tail _ (.tail _ (.tail _ (.head _)))))) (all_app ((fun b hb => (.tail _ (.tail _ (.tail _ (.tail _ (.tail _ (.tail _ (.tail _ (.tail _ (List.mem_append_left _ hb)))))))))) : ∀ b ∈ L1094, b ∈ (D1587 :: (p838 :: (p904 :: (D980 :: (p1105 :: (p1225 :: (a1238 :: (D1322 :: (L1094 ++ (L1240 ++ (L1444 ++ [])))))))))))) (all_app ((fun b hb => (.tail _ (.tail _ (.tail _ (.tail _ (.tail _ (.tail _ (.tail _ (.tail _ (List.mem_append_right _ (List.mem_append_left _ hb))))))))))) : ∀ b ∈ L1240, b ∈ (D1587 :: (p838 :: (p904 :: (D980 :: (p1105 :: (p1225 :: (a1238 :: (D1322 :: (L1094 ++ (L1240 ++ (L1444 ++ [])))))))))))) (all_app ((fun b hb => (.tail _ (.tail _ (.tail _ (.tail _ (.tail _ (.tail _ (.tail _ (.tail _ (List.mem_append_right _ (List.mem_append_right _ (List.mem_append_left _ hb)))))))))))) : ∀ b ∈ L1444, b ∈ (D1587 :: (p838 :: (p904 :: (D980 :: (p1105 :: (p1225 :: (a1238 :: (D1322 :: (L1094 ++ (L1240 ++ (L1444 ++ [])))))))))))) all_nil)))))))))))), h1598, h1599, h1600, h1601, h1602, h1603, h1604, h1595, w1605, w1606, w1607, RpAll.nil, e1594, hw⟩
                              · intro i H1608 hi hw
                                obtain ⟨G1611, acc1613, vs1614, eG1612, S1609, h1620, h1621, h1622, h1623, h1624, h1625, h1626, h1610, w1627, w1628, w1629, d1615, eo1619, hw⟩ := hw
                                obtain ⟨z1630, hw⟩ := cW_mapA (rng_get hi) hw
                                generalize (0 + (i : Int)) = x1631 at hw ⊢
                                have hw := cW_noEr hw
                                have hw : cW (F_law_c11 (wrong_1274) (x1631)) _ (fun _ => False) := hw
                                unfold F_law_c11 at hw
                                refine ⟨rfl, ?_⟩
                                refine tyes_go ?_
                                refine ⟨(by show 1 ≤ sizeLine; decide), fun p1633 n1634 => ?_⟩
                                generalize g1635 : upd H1608 p1633 _ = H1636
                                obtain ⟨e1637, h1638⟩ := gen_new n1634 g1635
                                have h1639 : H1636 p1633 = some (.lst (([0] : (List Int)).map V.int)) := h1638
                                have fr1640 := S1609.free n1634
                                have S1641 := S1609.new n1634 e1637 h1639 fr1640
                                obtain ⟨g1642, hw⟩ := cW_grd hw
                                refine ⟨_, rfl, _, _, _, rfl, rfl, h1639, g1642.1, g1642.2.1, (rep_lenM g1642.2.2), fun p1643 n1644 => ?_⟩
                                generalize g1645 : upd H1636 p1643 _ = H1646
                                obtain ⟨e1647, h1648⟩ := gen_new n1644 g1645
                                have h1649 : H1646 p1643 = some (.lst ((repL ([0]) (wrong_1274) : (List Int)).map V.int)) := rep_map h1648
                                have fr1650 := S1641.free n1644
                                have S1651 := S1641.new n1644 e1647 h1649 fr1650
                                obtain ⟨G1652, eG1653, hg1654, S1655⟩ := Sep.freeze (O' := (p1633 :: (D1587 :: (D980 :: (a1238 :: (D1322 :: (p838 :: (p904 :: (p1105 :: (p1225 :: (L1094 ++ (L1240 ++ (L1444 ++ []))))))))))))) S1651 (.head _) h1649 fr1650 ((all_cons ⟨(.tail _ (.head _)), (ne_of_none h1639 n1644)⟩ (all_cons ⟨(.tail _ (.tail _ (.head _))), (ne_of_none (e1637 _ _ h1610) n1644)⟩ (all_cons ⟨(.tail _ (.tail _ (.tail _ (.head _)))), (ne_of_none (e1637 _ _ h1620) n1644)⟩ (all_cons ⟨(.tail _ (.tail _ (.tail _ (.tail _ (.head _))))), (ne_of_none (e1637 _ _ h1621) n1644)⟩ (all_cons ⟨(.tail _ (.tail _ (.tail _ (.tail _ (.tail _ (.head _)))))), (ne_of_none (e1637 _ _ h1622) n1644)⟩ (all_cons ⟨(.tail _ (.tail _ (.tail _ (.tail _ (.tail _ (.tail _ (.head _))))))), (ne_of_none (e1637 _ _ h1623) n1644)⟩ (all_cons ⟨(.tail _ (.tail _ (.tail _ (.tail _ (.tail _ (.tail _ (.tail _ (.head _)))))))), (ne_of_none (e1637 _ _ h1624) n1644)⟩ (all_cons ⟨(.tail _ (.tail _ (.tail _ (.tail _ (.tail _ (.tail _ (.tail _ (.tail _ (.head _))))))))), (ne_of_none (e1637 _ _ h1625) n1644)⟩ (all_cons ⟨(.tail _ (.tail _ (.tail _ (.tail _ (.tail _ (.tail _ (.tail _ (.tail _ (.tail _ (.head _)))))))))), (ne_of_none (e1637 _ _ h1626) n1644)⟩ (all_app (fun b hb => ⟨((fun b hb => (.tail _ (.tail _ (.tail _ (.tail _ (.tail _ (.tail _ (.tail _ (.tail _ (.tail _ (.tail _ (List.mem_append_left _ hb)))))))))))) : ∀ b ∈ L1094, b ∈ (p1643 :: (p1633 :: (D1587 :: (D980 :: (a1238 :: (D1322 :: (p838 :: (p904 :: (p1105 :: (p1225 :: (L1094 ++ (L1240 ++ (L1444 ++ [])))))))))))))) b hb, (there_ne (fun b_ hb_ => (S1641.ow b_ (((fun b hb => (.tail _ (.tail _ (.tail _ (.tail _ (.tail _ (.tail _ (.tail _ (.tail _ (.tail _ (List.mem_append_left _ hb))))))))))) : ∀ b ∈ L1094, b ∈ (p1633 :: (D1587 :: (D980 :: (a1238 :: (D1322 :: (p838 :: (p904 :: (p1105 :: (p1225 :: (L1094 ++ (L1240 ++ (L1444 ++ []))))))))))))) b_ hb_)).2.1) n1644) b hb⟩) (all_app (fun b hb => ⟨((fun b hb => (.tail _ (.tail _ (.tail _ (.tail _ (.tail _ (.tail _ (.tail _ (.tail _ (.tail _ (.tail _ (List.mem_append_right _ (List.mem_append_left _ hb))))))))))))) : ∀ b ∈ L1240, b ∈ (p1643 :: (p1633 :: (D1587 :: (D980 :: (a1238 :: (D1322 :: (p838 :: (p904 :: (p1105 :: (p1225 :: (L1094 ++ (L1240 ++ (L1444 ++ [])))))))))))))) b hb, (there_ne (fun b_ hb_ => (S1641.ow b_ (((fun b hb => (.tail _ (.tail _ (.tail _ (.tail _ (.tail _ (.tail _ (.tail _ (.tail _ (.tail _ (List.mem_append_right _ (List.mem_append_left _ hb)))))))))))) : ∀ b ∈ L1240, b ∈ (p1633 :: (D1587 :: (D980 :: (a1238 :: (D1322 :: (p838 :: (p904 :: (p1105 :: (p1225 :: (L1094 ++ (L1240 ++ (L1444 ++ []))))))))))))) b_ hb_)).2.1) n1644) b hb⟩) (all_app (fun b hb => ⟨((fun b hb => (.tail _ (.tail _ (.tail _ (.tail _ (.tail _ (.tail _ (.tail _ (.tail _ (.tail _ (.tail _ (List.mem_append_right _ (List.mem_append_right _ (List.mem_append_left _ hb)))))))))))))) : ∀ b ∈ L1444, b ∈ (p1643 :: (p1633 :: (D1587 :: (D980 :: (a1238 :: (D1322 :: (p838 :: (p904 :: (p1105 :: (p1225 :: (L1094 ++ (L1240 ++ (L1444 ++ [])))))))))))))) b hb, (there_ne (fun b_ hb_ => (S1641.ow b_ (((fun b hb => (.tail _ (.tail _ (.tail _ (.tail _ (.tail _ (.tail _ (.tail _ (.tail _ (.tail _ (List.mem_append_right _ (List.mem_append_right _ (List.mem_append_left _ hb))))))))))))) : ∀ b ∈ L1444, b ∈ (p1633 :: (D1587 :: (D980 :: (a1238 :: (D1322 :: (p838 :: (p904 :: (p1105 :: (p1225 :: (L1094 ++ (L1240 ++ (L1444 ++ []))))))))))))) b_ hb_)).2.1) n1644) b hb⟩) all_nil)))))))))))))
                                have h1656 := (e1647 _ _ (e1637 _ _ h1610))
                                refine ⟨_, h1656, (app_len (RpAll.mono eG1653 d1615) z1630), ?_⟩
                                generalize g1657 : upd H1646 D1587 _ = H1658
                                obtain ⟨x1659, h1660⟩ := gen_mut g1657
                                have S1661 := S1655.mut1 x1659 (.tail _ (.head _)) h1660
                                have hw := cW_ok hw
                                have h1662 := (x1659 _ _ (e1647 _ _ (e1637 _ _ h1620)) (ne_of_none h1563 n1588))
                                have h1663 := (x1659 _ _ (e1647 _ _ (e1637 _ _ h1621)) (ne_of_none h1566 n1588))
                                have h1664 := (x1659 _ _ (e1647 _ _ (e1637 _ _ h1622)) (ne_of_none h1567 n1588))
                                have h1665 := (x1659 _ _ (e1647 _ _ (e1637 _ _ h1623)) (ne_of_none h1561 n1588))
                                have h1666 := (x1659 _ _ (e1647 _ _ (e1637 _ _ h1624)) (ne_of_none h1562 n1588))
                                have h1667 := (x1659 _ _ (e1647 _ _ (e1637 _ _ h1625)) (ne_of_none h1564 n1588))
                                have h1668 := (x1659 _ _ (e1647 _ _ (e1637 _ _ h1626)) (ne_of_none h1565 n1588))
                                have w1669 : OwAll G1652 H1658 L1094 (vs1092) ((acc1091 : (List (List Int))).map (oL oI)) := (OwAll.mono eG1653 keeps_refl (OwAll.mono (Same.refl _) (keeps_mut x1659 ((there_ne (fun b_ hb_ => (S1560.ow b_ (((fun b hb => (.tail _ (.tail _ (.tail _ (.tail _ (.tail _ (.tail _ (.tail _ (List.mem_append_left _ hb))))))))) : ∀ b ∈ L1094, b ∈ (p838 :: (p904 :: (D980 :: (p1105 :: (p1225 :: (a1238 :: (D1322 :: (L1094 ++ (L1240 ++ (L1444 ++ []))))))))))) b_ hb_)).2.1) n1588) : ∀ b ∈ L1094, b ≠ D1587)) (OwAll.mono (Same.refl _) (keeps_same e1647) (OwAll.mono (Same.refl _) (keeps_same e1637) w1627))))
                                have w1670 : OwAll G1652 H1658 L1240 (vs1239) ((v1235 : (List (List Int))).map (oL oI)) := (OwAll.mono eG1653 keeps_refl (OwAll.mono (Same.refl _) (keeps_mut x1659 ((there_ne (fun b_ hb_ => (S1560.ow b_ (((fun b hb => (.tail _ (.tail _ (.tail _ (.tail _ (.tail _ (.tail _ (.tail _ (List.mem_append_right _ (List.mem_append_left _ hb)))))))))) : ∀ b ∈ L1240, b ∈ (p838 :: (p904 :: (D980 :: (p1105 :: (p1225 :: (a1238 :: (D1322 :: (L1094 ++ (L1240 ++ (L1444 ++ []))))))))))) b_ hb_)).2.1) n1588) : ∀ b ∈ L1240, b ≠ D1587)) (OwAll.mono (Same.refl _) (keeps_same e1647) (OwAll.mono (Same.refl _) (keeps_same e1637) w1628))))
                                have w1671 : OwAll G1652 H1658 L1444 (vs1443) ((bad_1442 : (List (List Int))).map (oL oI)) := (OwAll.mono eG1653 keeps_refl (OwAll.mono (Same.refl _) (keeps_mut x1659 ((there_ne (fun b_ hb_ => (S1560.ow b_ (((fun b hb => (.tail _ (.tail _ (.tail _ (.tail _ (.tail _ (.tail _ (.tail _ (List.mem_append_right _ (List.mem_append_right _ (List.mem_append_left _ hb))))))))))) : ∀ b ∈ L1444, b ∈ (p838 :: (p904 :: (D980 :: (p1105 :: (p1225 :: (a1238 :: (D1322 :: (L1094 ++ (L1240 ++ (L1444 ++ []))))))))))) b_ hb_)).2.1) n1588) : ∀ b ∈ L1444, b ≠ D1587)) (OwAll.mono (Same.refl _) (keeps_same e1647) (OwAll.mono (Same.refl _) (keeps_same e1637) w1629))))
                                exact ⟨_, (acc1613 ++ [repL ([0]) (wrong_1274)]), _, (Same.trans eG1612 eG1653), (S1661.sub (all_cons (.tail _ (.head _)) (all_cons (.tail _ (.tail _ (.head _))) (all_cons (.tail _ (.tail _ (.tail _ (.head _)))) (all_cons (.tail _ (.tail _ (.tail _ (.tail _ (.head _))))) (all_cons (.tail _ (.tail _ (.tail _ (.tail _ (.tail _ (.head _)))))) (all_cons (.tail _ (.tail _ (.tail _ (.tail _ (.tail _ (.tail _ (.head _))))))) (all_cons (.tail _ (.tail _ (.tail _ (.tail _ (.tail _ (.tail _ (.tail _ (.head _)))))))) (all_cons (.tail _ (.tail _ (.tail _ (.tail _ (.tail _ (.tail _ (.tail _ (.tail _ (.head _))))))))) (all_app ((fun b hb => (.tail _ (.tail _ (.tail _ (.tail _ (.tail _ (.tail _ (.tail _ (.tail _ (.tail _ (List.mem_append_left _ hb))))))))))) : ∀ b ∈ L1094, b ∈ (p1633 :: (D1587 :: (D980 :: (a1238 :: (D1322 :: (p838 :: (p904 :: (p1105 :: (p1225 :: (L1094 ++ (L1240 ++ (L1444 ++ []))))))))))))) (all_app ((fun b hb => (.tail _ (.tail _ (.tail _ (.tail _ (.tail _ (.tail _ (.tail _ (.tail _ (.tail _ (List.mem_append_right _ (List.mem_append_left _ hb)))))))))))) : ∀ b ∈ L1240, b ∈ (p1633 :: (D1587 :: (D980 :: (a1238 :: (D1322 :: (p838 :: (p904 :: (p1105 :: (p1225 :: (L1094 ++ (L1240 ++ (L1444 ++ []))))))))))))) (all_app ((fun b hb => (.tail _ (.tail _ (.tail _ (.tail _ (.tail _ (.tail _ (.tail _ (.tail _ (.tail _ (List.mem_append_right _ (List.mem_append_right _ (List.mem_append_left _ hb))))))))))))) : ∀ b ∈ L1444, b ∈ (p1633 :: (D1587 :: (D980 :: (a1238 :: (D1322 :: (p838 :: (p904 :: (p1105 :: (p1225 :: (L1094 ++ (L1240 ++ (L1444 ++ []))))))))))))) all_nil)))))))))))), h1662, h1663, h1664, h1665, h1666, h1667, h1668, h1660, w1669, w1670, w1671, (app_map (RpAll.mono eG1653 d1615) (RpAll.one (rp_mk_ints hg1654))), (same_mut (Same.trans (Same.trans eo1619 e1637) e1647) x1659 n1588), hw⟩
                              intro H1672 hw
                              obtain ⟨G1675, acc1677, vs1678, eG1676, S1673, h1684, h1685, h1686, h1687, h1688, h1689, h1690, h1674, w1691, w1692, w1693, d1679, eo1683, hw⟩ := hw
                              have hw := hK1586 _ (cW_mapA0 (rng_len _ _).symm hw)
                              have fr1694 := S1560.free n1588
                              refine ⟨rfl, rfl, G1675, _, _, _, _, rfl, S1673.sG, (Rp.hide_nil (rp_mk_list h1674 (RpAll.mono S1673.sG d1679))), cW_call hw (fun v1695 hw H1696 e1697 => ?_) (fun e he => (hE e he).elim)⟩
                              have S1698 := S1673.same e1697
                              refine ⟨_, rfl, ?_⟩
                              refine iteBN (fun c1699 => ?_) (fun c1699 => ?_)
                              · have hw := cW_negB c1699 hw
                                refine iteT ?_
                                have hw := cW_ok hw
                                have hw := hK816 (.rt _) hw
                                have hw := hK795 (.rt _) hw
                                have hw := cW_ok hw
                                exact eq_bl (k _) (hK0 _ hw).symm
                              · have hw := cW_pos c1699 hw
                                have h1700 := (e1697 _ _ h1686)
                                have w1701 : OwAll G1675 H1696 L1444 (vs1443) ((bad_1442 : (List (List Int))).map (oL oI)) := (OwAll.mono (Same.refl _) (keeps_same e1697) w1693)
                                refine ⟨_, rfl, rfl, rfl, G1675, _, _, _, _, rfl, S1698.sG, (Rp.hide_nil (rp_mk_list h1700 (OwAll.rpA w1701 (encO_L encO_I) S1698.sG))), cW_call hw (fun v1702 hw H1703 e1704 => ?_) (fun e he => (hE e he).elim)⟩
                                have S1705 := S1698.same e1704
                                refine ⟨_, rfl, ?_⟩
                                refine iteBN (fun c1706 => ?_) (fun c1706 => ?_)
                                · have hw := cW_negB c1706 hw
                                  have hw := cW_ok hw
                                  have hw := hK816 (.rt _) hw
                                  have hw := hK795 (.rt _) hw
                                  have hw := cW_ok hw
                                  exact eq_bl (k _) (hK0 _ hw).symm
                                · have hw := cW_pos c1706 hw
                                  have h1707 := (e1704 _ _ (e1697 _ _ h1684))
                                  obtain ⟨K1709, hK1710, hw⟩ := cW_push hw
                                  refine ⟨_, rfl, _, rfl, ⟨_, (SqL.of h1707)⟩, fun D1711 n1712 => lc_list (K := K) (a := D980) (xs := vs1092) (fun i H' => ∃ (G' : Hp) (acc1714 : (List (List Int))) (vs1715 : List V) (L1713 : List Addr), Same G1675 G' ∧ Sep [] H H G' H' (D1711 :: (L1713 ++ (D980 :: (a1238 :: (D1322 :: (p838 :: (p904 :: (p1105 :: (p1225 :: (L1094 ++ (L1240 ++ (L1444 ++ [])))))))))))) ∧ H' D980 = some (.lst (vs1092)) ∧ H' a1238 = some (.lst (vs1239)) ∧ H' D1322 = some (.lst (vs1443)) ∧ H' p838 = some (.lst (vs839 ++ [V.ref p851])) ∧ H' p904 = some (.lst ((digits_903 : (List Int)).map V.int)) ∧ H' p1105 = some (.lst ((v1102 : (List Int)).map V.int)) ∧ H' p1225 = some (.lst ((v1102 : (List Int)).map V.int)) ∧ H' D1711 = some (.lst vs1715) ∧ OwAll G' H' L1094 (vs1092) ((acc1091 : (List (List Int))).map (oL oI)) ∧ OwAll G' H' L1240 (vs1239) ((v1235 : (List (List Int))).map (oL oI)) ∧ OwAll G' H' L1444 (vs1443) ((bad_1442 : (List (List Int))).map (oL oI)) ∧ OwAll G' H' L1713 vs1715 ((acc1714 : (List (List Int))).map (oL oI)) ∧ (∀ b ∈ L1713, H1703 b = none) ∧ (∀ b ∈ L1713, b ≠ D1711) ∧ Same H1703 H' ∧ cW (mapA (List.drop i (acc1091)) acc1714 (fun x => noEr (F_law_c12  x))) K1709 EE) ?_ ?_ ?_ ?_⟩
                                  · generalize g1716 : upd H1703 D1711 _ = H1717
                                    obtain ⟨e1718, h1719⟩ := gen_new n1712 g1716
                                    have fr1720 := S1705.free n1712
                                    have S1721 := S1705.new n1712 e1718 h1719 fr1720
                                    have h1722 := (e1718 _ _ h1707)
                                    have h1723 := (e1718 _ _ (e1704 _ _ (e1697 _ _ h1685)))
                                    have h1724 := (e1718 _ _ (e1704 _ _ h1700))
                                    have h1725 := (e1718 _ _ (e1704 _ _ (e1697 _ _ h1687)))
                                    have h1726 := (e1718 _ _ (e1704 _ _ (e1697 _ _ h1688)))
                                    have h1727 := (e1718 _ _ (e1704 _ _ (e1697 _ _ h1689)))
                                    have h1728 := (e1718 _ _ (e1704 _ _ (e1697 _ _ h1690)))
                                    have w1729 : OwAll G1675 H1717 L1094 (vs1092) ((acc1091 : (List (List Int))).map (oL oI)) := (OwAll.mono (Same.refl _) (keeps_same e1718) (OwAll.mono (Same.refl _) (keeps_same e1704) (OwAll.mono (Same.refl _) (keeps_same e1697) w1691)))
                                    have w1730 : OwAll G1675 H1717 L1240 (vs1239) ((v1235 : (List (List Int))).map (oL oI)) := (OwAll.mono (Same.refl _) (keeps_same e1718) (OwAll.mono (Same.refl _) (keeps_same e1704) (OwAll.mono (Same.refl _) (keeps_same e1697) w1692)))
                                    have w1731 : OwAll G1675 H1717 L1444 (vs1443) ((bad_1442 : (List (List Int))).map (oL oI)) := (OwAll.mono (Same.refl _) (keeps_same e1718) (OwAll.mono (Same.refl _) (keeps_same e1704) w1701))
                                    exact ⟨_, [], [], [], Same.refl _, (S1721.sub (all_cons (.head _) (all_app (L := []) all_nil (all_cons (.tail _ (.tail _ (.head _))) (all_cons (.tail _ (.tail _ (.tail _ (.head _)))) (all_cons (.tail _ (.tail _ (.tail _ (.tail _ (.head _))))) (all_cons (.tail _ (.tail _ (.tail _ (.tail _ (.tail _ (.head _)))))) (all_cons (.tail _ (.tail _ (.tail _ (.tail _ (.tail _ (.tail _ (.head _))))))) (all_cons (.tail _ (.tail _ (.tail _ (.tail _ (.tail _ (.tail _ (.tail _ (.head _)))))))) (all_cons (.tail _ (.tail _ (.tail _ (.tail _ (.tail _ (.tail _ (.tail _ (.tail _ (.head _))))))))) (all_app ((fun b hb => (.tail _ (.tail _ (.tail _ (.tail _ (.tail _ (.tail _ (.tail _ (.tail _ (.tail _ (List.mem_append_left _ hb))))))))))) : ∀ b ∈ L1094, b ∈ (D1711 :: (D1587 :: (D980 :: (a1238 :: (D1322 :: (p838 :: (p904 :: (p1105 :: (p1225 :: (L1094 ++ (L1240 ++ (L1444 ++ []))))))))))))) (all_app ((fun b hb => (.tail _ (.tail _ (.tail _ (.tail _ (.tail _ (.tail _ (.tail _ (.tail _ (.tail _ (List.mem_append_right _ (List.mem_append_left _ hb)))))))))))) : ∀ b ∈ L1240, b ∈ (D1711 :: (D1587 :: (D980 :: (a1238 :: (D1322 :: (p838 :: (p904 :: (p1105 :: (p1225 :: (L1094 ++ (L1240 ++ (L1444 ++ []))))))))))))) (all_app ((fun b hb => (.tail _ (.tail _ (.tail _ (.tail _ (.tail _ (.tail _ (.tail _ (.tail _ (.tail _ (List.mem_append_right _ (List.mem_append_right _ (List.mem_append_left _ hb))))))))))))) : ∀ b ∈ L1444, b ∈ (D1711 :: (D1587 :: (D980 :: (a1238 :: (D1322 :: (p838 :: (p904 :: (p1105 :: (p1225 :: (L1094 ++ (L1240 ++ (L1444 ++ []))))))))))))) all_nil))))))))))))), h1722, h1723, h1724, h1725, h1726, h1727, h1728, h1719, w1729, w1730, w1731, OwAll.nil, all_nil, all_nil, e1718, hw⟩
                                  · intro i H1732 _ hw
                                    obtain ⟨G1735, acc1737, vs1738, L1740, eG1736, S1733, h1744, h1745, h1746, h1747, h1748, h1749, h1750, h1734, w1751, w1752, w1753, d1739, nb1741, nd1742, eo1743, hw⟩ := hw
                                    exact (SqL.of h1744)
                                  · intro i x H1754 hj hw
                                    obtain ⟨G1757, acc1759, vs1760, L1762, eG1758, S1755, h1766, h1767, h1768, h1769, h1770, h1771, h1772, h1756, w1773, w1774, w1775, d1761, nb1763, nd1764, eo1765, hw⟩ := hw
                                    obtain ⟨x1776, L1777, hx, w1778, hs1779⟩ := OwAll.turn w1773 hj
                                    obtain ⟨b1780, rfl, rfl, h1781⟩ := Ow.toInts w1778
                                    have hv1782 := hj
                                    have hx1783 := hx
                                    obtain ⟨z1784, hw⟩ := cW_mapA hx hw
                                    have hw := cW_noEr hw
                                    have hw : cW (F_law_c12  (x1776)) _ (fun _ => False) := hw
                                    unfold F_law_c12 at hw
                                    refine ⟨rfl, ?_⟩
                                    refine tyes_go ?_
                                    refine ⟨_, rfl, _, _, rfl, (SqL.of h1781), fun p1786 n1787 => ?_⟩
                                    generalize g1788 : upd H1754 p1786 _ = H1789
                                    obtain ⟨e1790, h1791⟩ := gen_new n1787 g1788
                                    have h1792 : H1789 p1786 = some (.lst ((x1776 : (List Int)).map V.int)) := h1791
                                    have fr1793 := S1755.free n1787
                                    have S1794 := S1755.new n1787 e1790 h1792 fr1793
                                    have w1795 : OwAll G1757 H1789 L1762 (vs1760) ((acc1759 : (List (List Int))).map (oL oI)) := (OwAll.mono (Same.refl _) (keeps_same e1790) d1761)
                                    have h1796 := (e1790 _ _ h1756)
                                    refine ⟨_, h1796, (app_len (OwAll.rpA w1795 (encO_L encO_I) S1794.sG) z1784), ?_⟩
                                    generalize g1797 : upd H1789 D1711 _ = H1798
                                    obtain ⟨x1799, h1800⟩ := gen_mut g1797
                                    have S1801 := S1794.mut1 x1799 (.tail _ (.head _)) h1800
                                    have hw := cW_ok hw
                                    have h1802 := (x1799 _ _ (e1790 _ _ h1766) (ne_of_none h1707 n1712))
                                    have h1803 := (x1799 _ _ (e1790 _ _ h1767) (ne_of_none (e1704 _ _ (e1697 _ _ h1685)) n1712))
                                    have h1804 := (x1799 _ _ (e1790 _ _ h1768) (ne_of_none (e1704 _ _ h1700) n1712))
                                    have h1805 := (x1799 _ _ (e1790 _ _ h1769) (ne_of_none (e1704 _ _ (e1697 _ _ h1687)) n1712))
                                    have h1806 := (x1799 _ _ (e1790 _ _ h1770) (ne_of_none (e1704 _ _ (e1697 _ _ h1688)) n1712))
                                    have h1807 := (x1799 _ _ (e1790 _ _ h1771) (ne_of_none (e1704 _ _ (e1697 _ _ h1689)) n1712))
                                    have h1808 := (x1799 _ _ (e1790 _ _ h1772) (ne_of_none (e1704 _ _ (e1697 _ _ h1690)) n1712))
                                    have w1809 : OwAll G1757 H1798 L1094 (vs1092) ((acc1091 : (List (List Int))).map (oL oI)) := (OwAll.mono (Same.refl _) (keeps_mut x1799 ((there_ne (fun b_ hb_ => (S1705.ow b_ (((fun b hb => (.tail _ (.tail _ (.tail _ (.tail _ (.tail _ (.tail _ (.tail _ (.tail _ (List.mem_append_left _ hb)))))))))) : ∀ b ∈ L1094, b ∈ (D1587 :: (D980 :: (a1238 :: (D1322 :: (p838 :: (p904 :: (p1105 :: (p1225 :: (L1094 ++ (L1240 ++ (L1444 ++ [])))))))))))) b_ hb_)).2.1) n1712) : ∀ b ∈ L1094, b ≠ D1711)) (OwAll.mono (Same.refl _) (keeps_same e1790) w1773))
                                    have w1810 : OwAll G1757 H1798 L1240 (vs1239) ((v1235 : (List (List Int))).map (oL oI)) := (OwAll.mono (Same.refl _) (keeps_mut x1799 ((there_ne (fun b_ hb_ => (S1705.ow b_ (((fun b hb => (.tail _ (.tail _ (.tail _ (.tail _ (.tail _ (.tail _ (.tail _ (.tail _ (List.mem_append_right _ (List.mem_append_left _ hb))))))))))) : ∀ b ∈ L1240, b ∈ (D1587 :: (D980 :: (a1238 :: (D1322 :: (p838 :: (p904 :: (p1105 :: (p1225 :: (L1094 ++ (L1240 ++ (L1444 ++ [])))))))))))) b_ hb_)).2.1) n1712) : ∀ b ∈ L1240, b ≠ D1711)) (OwAll.mono (Same.refl _) (keeps_same e1790) w1774))
                                    have w1811 : OwAll G1757 H1798 L1444 (vs1443) ((bad_1442 : (List (List Int))).map (oL oI)) := (OwAll.mono (Same.refl _) (keeps_mut x1799 ((there_ne (fun b_ hb_ => (S1705.ow b_ (((fun b hb => (.tail _ (.tail _ (.tail _ (.tail _ (.tail _ (.tail _ (.tail _ (.tail _ (List.mem_append_right _ (List.mem_append_right _ (List.mem_append_left _ hb)))))))))))) : ∀ b ∈ L1444, b ∈ (D1587 :: (D980 :: (a1238 :: (D1322 :: (p838 :: (p904 :: (p1105 :: (p1225 :: (L1094 ++ (L1240 ++ (L1444 ++ [])))))))))))) b_ hb_)).2.1) n1712) : ∀ b ∈ L1444, b ≠ D1711)) (OwAll.mono (Same.refl _) (keeps_same e1790) w1775))
                                    exact ⟨_, (acc1759 ++ [x1776]), _, (L1762 ++ (p1786 :: ([] : List Addr))), eG1758, (S1801.sub (all_cons (.tail _ (.head _)) (all_app (all_app ((fun b hb => (.tail _ (.tail _ (List.mem_append_left _ hb)))) : ∀ b ∈ L1762, b ∈ (p1786 :: (D1711 :: (L1762 ++ (D980 :: (a1238 :: (D1322 :: (p838 :: (p904 :: (p1105 :: (p1225 :: (L1094 ++ (L1240 ++ (L1444 ++ [])))))))))))))) (all_cons (.head _) all_nil)) (all_cons (.tail _ (.tail _ (List.mem_append_right _ (.head _)))) (all_cons (.tail _ (.tail _ (List.mem_append_right _ (.tail _ (.head _))))) (all_cons (.tail _ (.tail _ (List.mem_append_right _ (.tail _ (.tail _ (.head _)))))) (all_cons (.tail _ (.tail _ (List.mem_append_right _ (.tail _ (.tail _ (.tail _ (.head _))))))) (all_cons (.tail _ (.tail _ (List.mem_append_right _ (.tail _ (.tail _ (.tail _ (.tail _ (.head _)))))))) (all_cons (.tail _ (.tail _ (List.mem_append_right _ (.tail _ (.tail _ (.tail _ (.tail _ (.tail _ (.head _))))))))) (all_cons (.tail _ (.tail _ (List.mem_append_right _ (.tail _ (.tail _ (.tail _ (.tail _ (.tail _ (.tail _ (.head _)))))))))) (all_app ((fun b hb => (.tail _ (.tail _ (List.mem_append_right _ (.tail _ (.tail _ (.tail _ (.tail _ (.tail _ (.tail _ (.tail _ (List.mem_append_left _ hb)))))))))))) : ∀ b ∈ L1094, b ∈ (p1786 :: (D1711 :: (L1762 ++ (D980 :: (a1238 :: (D1322 :: (p838 :: (p904 :: (p1105 :: (p1225 :: (L1094 ++ (L1240 ++ (L1444 ++ [])))))))))))))) (all_app ((fun b hb => (.tail _ (.tail _ (List.mem_append_right _ (.tail _ (.tail _ (.tail _ (.tail _ (.tail _ (.tail _ (.tail _ (List.mem_append_right _ (List.mem_append_left _ hb))))))))))))) : ∀ b ∈ L1240, b ∈ (p1786 :: (D1711 :: (L1762 ++ (D980 :: (a1238 :: (D1322 :: (p838 :: (p904 :: (p1105 :: (p1225 :: (L1094 ++ (L1240 ++ (L1444 ++ [])))))))))))))) (all_app ((fun b hb => (.tail _ (.tail _ (List.mem_append_right _ (.tail _ (.tail _ (.tail _ (.tail _ (.tail _ (.tail _ (.tail _ (List.mem_append_right _ (List.mem_append_right _ (List.mem_append_left _ hb)))))))))))))) : ∀ b ∈ L1444, b ∈ (p1786 :: (D1711 :: (L1762 ++ (D980 :: (a1238 :: (D1322 :: (p838 :: (p904 :: (p1105 :: (p1225 :: (L1094 ++ (L1240 ++ (L1444 ++ [])))))))))))))) all_nil))))))))))))), h1802, h1803, h1804, h1805, h1806, h1807, h1808, h1800, w1809, w1810, w1811, (OwAll.mono (Same.refl _) (keeps_mut x1799 ((all_app nd1764 (all_cons (ne_of_none h1756 n1787).symm all_nil)) : ∀ b ∈ (L1762 ++ (p1786 :: ([] : List Addr))), b ≠ D1711)) (OwAll.snocM w1795 (Ow.ints h1792) ((fun b hb => (nm_cons ((there_ne (fun b_ hb_ => (S1755.ow b_ (((fun b hb => (.tail _ (List.mem_append_left _ hb))) : ∀ b ∈ L1762, b ∈ (D1711 :: (L1762 ++ (D980 :: (a1238 :: (D1322 :: (p838 :: (p904 :: (p1105 :: (p1225 :: (L1094 ++ (L1240 ++ (L1444 ++ []))))))))))))) b_ hb_)).2.1) n1787) b hb) nm_nil)) : ∀ b ∈ L1762, b ∉ (p1786 :: ([] : List Addr))))), ((all_app nb1763 (all_cons (none_of_same eo1765 n1787) all_nil)) : ∀ b ∈ (L1762 ++ (p1786 :: ([] : List Addr))), H1703 b = none), ((all_app nd1764 (all_cons (ne_of_none h1756 n1787).symm all_nil)) : ∀ b ∈ (L1762 ++ (p1786 :: ([] : List Addr))), b ≠ D1711), (same_mut (Same.trans eo1765 e1790) x1799 n1712), hw⟩
                                  intro H1812 hw
                                  obtain ⟨G1815, acc1817, vs1818, L1820, eG1816, S1813, h1824, h1825, h1826, h1827, h1828, h1829, h1830, h1814, w1831, w1832, w1833, d1819, nb1821, nd1822, eo1823, hw⟩ := hw
                                  have hw := hK1710 _ (cW_mapA0 (by rw [(OwAll.rpA w1831 (encO_L encO_I) S1813.sG).len, List.length_map]) hw)
                                  have fr1834 := S1705.free n1712
                                  refine ⟨(by show 1 ≤ sizeLine; decide), fun p1835 n1836 => ?_⟩
                                  generalize g1837 : upd H1812 p1835 _ = H1838
                                  obtain ⟨e1839, h1840⟩ := gen_new n1836 g1837
                                  have h1841 : H1838 p1835 = some (.lst (([0] : (List Int)).map V.int)) := h1840
                                  have fr1842 := S1813.free n1836
                                  have S1843 := S1813.new n1836 e1839 h1841 fr1842
                                  obtain ⟨g1844, hw⟩ := cW_grd hw
                                  refine ⟨_, rfl, _, _, rfl, rfl, _, _, _, rfl, rfl, h1841, g1844.1, g1844.2.1, (rep_lenM g1844.2.2), fun p1845 n1846 => ?_⟩
                                  generalize g1847 : upd H1838 p1845 _ = H1848
                                  obtain ⟨e1849, h1850⟩ := gen_new n1846 g1847
                                  have h1851 : H1848 p1845 = some (.lst ((repL ([0]) ((12 - (4 + (4 * ((v818 + x814) % 2))))) : (List Int)).map V.int)) := rep_map h1850
                                  have fr1852 := S1843.free n1846
                                  have S1853 := S1843.new n1846 e1849 h1851 fr1852
                                  obtain ⟨g1854, hw⟩ := cW_grd hw
                                  obtain ⟨g1855, hw⟩ := cW_grd hw
                                  have w1856 : OwAll G1815 H1848 L1820 (vs1818) ((acc1817 : (List (List Int))).map (oL oI)) := (OwAll.mono (Same.refl _) (keeps_same e1849) (OwAll.mono (Same.refl _) (keeps_same e1839) d1819))
                                  have h1857 := (e1849 _ _ (e1839 _ _ h1814))
                                  refine ⟨_, rfl, _, rfl, _, _, rfl, rfl, (divW_lit (by decide) (by decide)), _, rfl, _, _, rfl, rfl, g1854, _, _, _, _, rfl, rfl, h1857, (ixN_len w1856.lenM g1855), ?_⟩
                                  obtain ⟨L1858, hL1859, w1860⟩ := OwAll.setM w1856 g1855 (Ow.ints h1851) ((all_cons (fun z => (there_ne (fun b_ hb_ => (S1843.ow b_ (((fun b hb => (.tail _ (.tail _ (List.mem_append_left _ hb)))) : ∀ b ∈ L1820, b ∈ (p1835 :: (D1711 :: (L1820 ++ (D980 :: (a1238 :: (D1322 :: (p838 :: (p904 :: (p1105 :: (p1225 :: (L1094 ++ (L1240 ++ (L1444 ++ [])))))))))))))) b_ hb_)).2.1) n1846) _ z rfl) all_nil) : ∀ b ∈ (p1845 :: ([] : List Addr)), b ∉ L1820)
                                  generalize g1862 : upd H1848 D1711 _ = H1863
                                  obtain ⟨x1864, h1865⟩ := gen_mut g1862
                                  have h1866 : H1863 D1711 = some (.lst ((vs1818).set ((ixN (vs1818).length ((((v818 + x814) / 51) % (4 + (4 * ((v818 + x814) % 2)))))).getD 0) (V.ref p1845))) := h1865
                                  have S1867 := S1853.mut1 x1864 (.tail _ (.tail _ (.head _))) h1866
                                  have w1861 : OwAll G1815 H1863 L1858 ((vs1818).set ((ixN (vs1818).length ((((v818 + x814) / 51) % (4 + (4 * ((v818 + x814) % 2)))))).getD 0) (V.ref p1845)) ((setL (acc1817) ((((v818 + x814) / 51) % (4 + (4 * ((v818 + x814) % 2))))) (repL ([0]) ((12 - (4 + (4 * ((v818 + x814) % 2)))))) : (List (List Int))).map (oL oI)) := OwAll.mono (Same.refl _) (keeps_mut x1864 ((fun b hb => ((all_app nd1822 (all_cons (ne_of_none (e1839 _ _ h1814) n1846).symm all_nil)) : ∀ b ∈ (L1820 ++ (p1845 :: ([] : List Addr))), b ≠ D1711) b (hL1859 b hb)) : ∀ b ∈ L1858, b ≠ D1711)) w1860
                                  have hw := cW_bnd hw
                                  refine ⟨_, rfl, rfl, rfl, G1815, _, _, _, _, rfl, S1867.sG, (Rp.hide_nil (rp_mk_list h1866 (OwAll.rpA w1861 (encO_L encO_I) S1867.sG))), cW_call hw (fun v1869 hw H1870 e1871 => ?_) (fun e he => (hE e he).elim)⟩
                                  have S1872 := S1867.same e1871
                                  refine ⟨_, rfl, ?_⟩
                                  refine iteBN (fun c1873 => ?_) (fun c1873 => ?_)
                                  · have hw := cW_negB c1873 hw
                                    refine iteT ?_
                                    have hw := cW_ok hw
                                    have hw := hK816 (.rt _) hw
                                    have hw := hK795 (.rt _) hw
                                    have hw := cW_ok hw
                                    exact eq_bl (k _) (hK0 _ hw).symm
                                  · have hw := cW_pos c1873 hw
                                    obtain ⟨g1874, hw⟩ := cW_grd hw
                                    obtain ⟨K1877, hK1878, hw⟩ := cW_push hw
                                    refine ⟨_, rfl, _, rfl, g1874.1, g1874.2, fun D1879 n1880 => lc_range (lo := 0) (n := Int.toNat ((4 + (4 * ((v818 + x814) % 2))))) (fun i H' => ∃ (G' : Hp) (acc1882 : (List (List Int))) (vs1883 : List V), Same G1815 G' ∧ Sep [] H H G' H' (D1879 :: (D980 :: (a1238 :: (D1711 :: (p838 :: (p904 :: (p1105 :: (p1225 :: (L1094 ++ (L1240 ++ (L1858 ++ []))))))))))) ∧ H' D980 = some (.lst (vs1092)) ∧ H' a1238 = some (.lst (vs1239)) ∧ H' D1711 = some (.lst ((vs1818).set ((ixN (vs1818).length ((((v818 + x814) / 51) % (4 + (4 * ((v818 + x814) % 2)))))).getD 0) (V.ref p1845))) ∧ H' p838 = some (.lst (vs839 ++ [V.ref p851])) ∧ H' p904 = some (.lst ((digits_903 : (List Int)).map V.int)) ∧ H' p1105 = some (.lst ((v1102 : (List Int)).map V.int)) ∧ H' p1225 = some (.lst ((v1102 : (List Int)).map V.int)) ∧ H' D1879 = some (.lst vs1883) ∧ OwAll G' H' L1094 (vs1092) ((acc1091 : (List (List Int))).map (oL oI)) ∧ OwAll G' H' L1240 (vs1239) ((v1235 : (List (List Int))).map (oL oI)) ∧ OwAll G' H' L1858 ((vs1818).set ((ixN (vs1818).length ((((v818 + x814) / 51) % (4 + (4 * ((v818 + x814) % 2)))))).getD 0) (V.ref p1845)) ((setL (acc1817) ((((v818 + x814) / 51) % (4 + (4 * ((v818 + x814) % 2))))) (repL ([0]) ((12 - (4 + (4 * ((v818 + x814) % 2)))))) : (List (List Int))).map (oL oI)) ∧ RpAll G' vs1883 ((acc1882 : (List (List Int))).map (encL PyData.int)) ∧ Same H1870 H' ∧ cW (mapA (List.drop i (rng (0) (Int.toNat ((4 + (4 * ((v818 + x814) % 2))))))) acc1882 (fun x => noEr (F_law_c13 ((4 + (4 * ((v818 + x814) % 2)))) x))) K1877 EE) ?_ ?_ ?_⟩
                                    · generalize g1884 : upd H1870 D1879 _ = H1885
                                      obtain ⟨e1886, h1887⟩ := gen_new n1880 g1884
                                      have fr1888 := S1872.free n1880
                                      have S1889 := S1872.new n1880 e1886 h1887 fr1888
                                      have h1890 := (e1886 _ _ (e1871 _ _ (x1864 _ _ (e1849 _ _ (e1839 _ _ h1824)) (ne_of_none h1707 n1712))))
                                      have h1891 := (e1886 _ _ (e1871 _ _ (x1864 _ _ (e1849 _ _ (e1839 _ _ h1825)) (ne_of_none (e1704 _ _ (e1697 _ _ h1685)) n1712))))
                                      have h1892 := (e1886 _ _ (e1871 _ _ h1866))
                                      have h1893 := (e1886 _ _ (e1871 _ _ (x1864 _ _ (e1849 _ _ (e1839 _ _ h1827)) (ne_of_none (e1704 _ _ (e1697 _ _ h1687)) n1712))))
                                      have h1894 := (e1886 _ _ (e1871 _ _ (x1864 _ _ (e1849 _ _ (e1839 _ _ h1828)) (ne_of_none (e1704 _ _ (e1697 _ _ h1688)) n1712))))
                                      have h1895 := (e1886 _ _ (e1871 _ _ (x1864 _ _ (e1849 _ _ (e1839 _ _ h1829)) (ne_of_none (e1704 _ _ (e1697 _ _ h1689)) n1712))))
                                      have h1896 := (e1886 _ _ (e1871 _ _ (x1864 _ _ (e1849 _ _ (e1839 _ _ h1830)) (ne_of_none (e1704 _ _ (e1697 _ _ h1690)) n1712))))
                                      have w1897 : OwAll G1815 H1885 L1094 (vs1092) ((acc1091 : (List (List Int))).map (oL oI)) := (OwAll.mono (Same.refl _) (keeps_same e1886) (OwAll.mono (Same.refl _) (keeps_same e1871) (OwAll.mono (Same.refl _) (keeps_mut x1864 ((there_ne (fun b_ hb_ => (S1705.ow b_ (((fun b hb => (.tail _ (.tail _ (.tail _ (.tail _ (.tail _ (.tail _ (.tail _ (.tail _ (List.mem_append_left _ hb)))))))))) : ∀ b ∈ L1094, b ∈ (D1587 :: (D980 :: (a1238 :: (D1322 :: (p838 :: (p904 :: (p1105 :: (p1225 :: (L1094 ++ (L1240 ++ (L1444 ++ [])))))))))))) b_ hb_)).2.1) n1712) : ∀ b ∈ L1094, b ≠ D1711)) (OwAll.mono (Same.refl _) (keeps_same e1849) (OwAll.mono (Same.refl _) (keeps_same e1839) w1831)))))
                                      have w1898 : OwAll G1815 H1885 L1240 (vs1239) ((v1235 : (List (List Int))).map (oL oI)) := (OwAll.mono (Same.refl _) (keeps_same e1886) (OwAll.mono (Same.refl _) (keeps_same e1871) (OwAll.mono (Same.refl _) (keeps_mut x1864 ((there_ne (fun b_ hb_ => (S1705.ow b_ (((fun b hb => (.tail _ (.tail _ (.tail _ (.tail _ (.tail _ (.tail _ (.tail _ (.tail _ (List.mem_append_right _ (List.mem_append_left _ hb))))))))))) : ∀ b ∈ L1240, b ∈ (D1587 :: (D980 :: (a1238 :: (D1322 :: (p838 :: (p904 :: (p1105 :: (p1225 :: (L1094 ++ (L1240 ++ (L1444 ++ [])))))))))))) b_ hb_)).2.1) n1712) : ∀ b ∈ L1240, b ≠ D1711)) (OwAll.mono (Same.refl _) (keeps_same e1849) (OwAll.mono (Same.refl _) (keeps_same e1839) w1832)))))
                                      have w1899 : OwAll G1815 H1885 L1858 ((vs1818).set ((ixN (vs1818).length ((((v818 + x814) / 51) % (4 + (4 * ((v818 + x814) % 2)))))).getD 0) (V.ref p1845)) ((setL (acc1817) ((((v818 + x814) / 51) % (4 + (4 * ((v818 + x814) % 2))))) (repL ([0]) ((12 - (4 + (4 * ((v818 + x814) % 2)))))) : (List (List Int))).map (oL oI)) := (OwAll.mono (Same.refl _) (keeps_same e1886) (OwAll.mono (Same.refl _) (keeps_same e1871) w1861))
                                      exact ⟨_, [], [], Same.refl _, (S1889.sub (all_cons (.head _) (all_cons (.tail _ (.tail _ (.tail _ (.tail _ (List.mem_append_right _ (.head _)))))) (all_cons (.tail _ (.tail _ (.tail _ (.tail _ (List.mem_append_right _ (.tail _ (.head _))))))) (all_cons (.tail _ (.tail _ (.tail _ (.head _)))) (all_cons (.tail _ (.tail _ (.tail _ (.tail _ (List.mem_append_right _ (.tail _ (.tail _ (.tail _ (.head _))))))))) (all_cons (.tail _ (.tail _ (.tail _ (.tail _ (List.mem_append_right _ (.tail _ (.tail _ (.tail _ (.tail _ (.head _)))))))))) (all_cons (.tail _ (.tail _ (.tail _ (.tail _ (List.mem_append_right _ (.tail _ (.tail _ (.tail _ (.tail _ (.tail _ (.head _))))))))))) (all_cons (.tail _ (.tail _ (.tail _ (.tail _ (List.mem_append_right _ (.tail _ (.tail _ (.tail _ (.tail _ (.tail _ (.tail _ (.head _)))))))))))) (all_app ((fun b hb => (.tail _ (.tail _ (.tail _ (.tail _ (List.mem_append_right _ (.tail _ (.tail _ (.tail _ (.tail _ (.tail _ (.tail _ (.tail _ (List.mem_append_left _ hb)))))))))))))) : ∀ b ∈ L1094, b ∈ (D1879 :: (p1845 :: (p1835 :: (D1711 :: (L1820 ++ (D980 :: (a1238 :: (D1322 :: (p838 :: (p904 :: (p1105 :: (p1225 :: (L1094 ++ (L1240 ++ (L1444 ++ [])))))))))))))))) (all_app ((fun b hb => (.tail _ (.tail _ (.tail _ (.tail _ (List.mem_append_right _ (.tail _ (.tail _ (.tail _ (.tail _ (.tail _ (.tail _ (.tail _ (List.mem_append_right _ (List.mem_append_left _ hb))))))))))))))) : ∀ b ∈ L1240, b ∈ (D1879 :: (p1845 :: (p1835 :: (D1711 :: (L1820 ++ (D980 :: (a1238 :: (D1322 :: (p838 :: (p904 :: (p1105 :: (p1225 :: (L1094 ++ (L1240 ++ (L1444 ++ [])))))))))))))))) (all_app (fun b hb => ((all_app ((fun b hb => (.tail _ (.tail _ (.tail _ (.tail _ (List.mem_append_left _ hb)))))) : ∀ b ∈ L1820, b ∈ (D1879 :: (p1845 :: (p1835 :: (D1711 :: (L1820 ++ (D980 :: (a1238 :: (D1322 :: (p838 :: (p904 :: (p1105 :: (p1225 :: (L1094 ++ (L1240 ++ (L1444 ++ [])))))))))))))))) (all_cons (.tail _ (.head _)) all_nil)) : ∀ b ∈ (L1820 ++ (p1845 :: ([] : List Addr))), b ∈ (D1879 :: (p1845 :: (p1835 :: (D1711 :: (L1820 ++ (D980 :: (a1238 :: (D1322 :: (p838 :: (p904 :: (p1105 :: (p1225 :: (L1094 ++ (L1240 ++ (L1444 ++ [])))))))))))))))) b (hL1859 b hb)) all_nil)))))))))))), h1890, h1891, h1892, h1893, h1894, h1895, h1896, h1887, w1897, w1898, w1899, RpAll.nil, e1886, hw⟩
                                    · intro i H1900 hi hw
                                      obtain ⟨G1903, acc1905, vs1906, eG1904, S1901, h1912, h1913, h1914, h1915, h1916, h1917, h1918, h1902, w1919, w1920, w1921, d1907, eo1911, hw⟩ := hw
                                      obtain ⟨z1922, hw⟩ := cW_mapA (rng_get hi) hw
                                      generalize (0 + (i : Int)) = x1923 at hw ⊢
                                      have hw := cW_noEr hw
                                      have hw : cW (F_law_c13 ((4 + (4 * ((v818 + x814) % 2)))) (x1923)) _ (fun _ => False) := hw
                                      unfold F_law_c13 at hw
                                      refine ⟨rfl, ?_⟩
                                      refine tyes_go ?_
                                      refine ⟨(by show 1 ≤ sizeLine; decide), fun p1925 n1926 => ?_⟩
                                      generalize g1927 : upd H1900 p1925 _ = H1928
                                      obtain ⟨e1929, h1930⟩ := gen_new n1926 g1927
                                      have h1931 : H1928 p1925 = some (.lst (([0] : (List Int)).map V.int)) := h1930
                                      have fr1932 := S1901.free n1926
                                      have S1933 := S1901.new n1926 e1929 h1931 fr1932
                                      obtain ⟨g1934, hw⟩ := cW_grd hw
                                      refine ⟨_, rfl, _, _, rfl, rfl, _, _, _, rfl, rfl, h1931, g1934.1, g1934.2.1, (rep_lenM g1934.2.2), fun p1935 n1936 => ?_⟩
                                      generalize g1937 : upd H1928 p1935 _ = H1938
                                      obtain ⟨e1939, h1940⟩ := gen_new n1936 g1937
                                      have h1941 : H1938 p1935 = some (.lst ((repL ([0]) ((12 - (4 + (4 * ((v818 + x814) % 2))))) : (List Int)).map V.int)) := rep_map h1940
                                      have fr1942 := S1933.free n1936
                                      have S1943 := S1933.new n1936 e1939 h1941 fr1942
                                      obtain ⟨G1944, eG1945, hg1946, S1947⟩ := Sep.freeze (O' := (p1925 :: (D1879 :: (D980 :: (a1238 :: (D1711 :: (p838 :: (p904 :: (p1105 :: (p1225 :: (L1094 ++ (L1240 ++ (L1858 ++ []))))))))))))) S1943 (.head _) h1941 fr1942 ((all_cons ⟨(.tail _ (.head _)), (ne_of_none h1931 n1936)⟩ (all_cons ⟨(.tail _ (.tail _ (.head _))), (ne_of_none (e1929 _ _ h1902) n1936)⟩ (all_cons ⟨(.tail _ (.tail _ (.tail _ (.head _)))), (ne_of_none (e1929 _ _ h1912) n1936)⟩ (all_cons ⟨(.tail _ (.tail _ (.tail _ (.tail _ (.head _))))), (ne_of_none (e1929 _ _ h1913) n1936)⟩ (all_cons ⟨(.tail _ (.tail _ (.tail _ (.tail _ (.tail _ (.head _)))))), (ne_of_none (e1929 _ _ h1914) n1936)⟩ (all_cons ⟨(.tail _ (.tail _ (.tail _ (.tail _ (.tail _ (.tail _ (.head _))))))), (ne_of_none (e1929 _ _ h1915) n1936)⟩ (all_cons ⟨(.tail _ (.tail _ (.tail _ (.tail _ (.tail _ (.tail _ (.tail _ (.head _)))))))), (ne_of_none (e1929 _ _ h1916) n1936)⟩ (all_cons ⟨(.tail _ (.tail _ (.tail _ (.tail _ (.tail _ (.tail _ (.tail _ (.tail _ (.head _))))))))), (ne_of_none (e1929 _ _ h1917) n1936)⟩ (all_cons ⟨(.tail _ (.tail _ (.tail _ (.tail _ (.tail _ (.tail _ (.tail _ (.tail _ (.tail _ (.head _)))))))))), (ne_of_none (e1929 _ _ h1918) n1936)⟩ (all_app (fun b hb => ⟨((fun b hb => (.tail _ (.tail _ (.tail _ (.tail _ (.tail _ (.tail _ (.tail _ (.tail _ (.tail _ (.tail _ (List.mem_append_left _ hb)))))))))))) : ∀ b ∈ L1094, b ∈ (p1935 :: (p1925 :: (D1879 :: (D980 :: (a1238 :: (D1711 :: (p838 :: (p904 :: (p1105 :: (p1225 :: (L1094 ++ (L1240 ++ (L1858 ++ [])))))))))))))) b hb, (there_ne (fun b_ hb_ => (S1933.ow b_ (((fun b hb => (.tail _ (.tail _ (.tail _ (.tail _ (.tail _ (.tail _ (.tail _ (.tail _ (.tail _ (List.mem_append_left _ hb))))))))))) : ∀ b ∈ L1094, b ∈ (p1925 :: (D1879 :: (D980 :: (a1238 :: (D1711 :: (p838 :: (p904 :: (p1105 :: (p1225 :: (L1094 ++ (L1240 ++ (L1858 ++ []))))))))))))) b_ hb_)).2.1) n1936) b hb⟩) (all_app (fun b hb => ⟨((fun b hb => (.tail _ (.tail _ (.tail _ (.tail _ (.tail _ (.tail _ (.tail _ (.tail _ (.tail _ (.tail _ (List.mem_append_right _ (List.mem_append_left _ hb))))))))))))) : ∀ b ∈ L1240, b ∈ (p1935 :: (p1925 :: (D1879 :: (D980 :: (a1238 :: (D1711 :: (p838 :: (p904 :: (p1105 :: (p1225 :: (L1094 ++ (L1240 ++ (L1858 ++ [])))))))))))))) b hb, (there_ne (fun b_ hb_ => (S1933.ow b_ (((fun b hb => (.tail _ (.tail _ (.tail _ (.tail _ (.tail _ (.tail _ (.tail _ (.tail _ (.tail _ (List.mem_append_right _ (List.mem_append_left _ hb)))))))))))) : ∀ b ∈ L1240, b ∈ (p1925 :: (D1879 :: (D980 :: (a1238 :: (D1711 :: (p838 :: (p904 :: (p1105 :: (p1225 :: (L1094 ++ (L1240 ++ (L1858 ++ []))))))))))))) b_ hb_)).2.1) n1936) b hb⟩) (all_app (fun b hb => ⟨((fun b hb => (.tail _ (.tail _ (.tail _ (.tail _ (.tail _ (.tail _ (.tail _ (.tail _ (.tail _ (.tail _ (List.mem_append_right _ (List.mem_append_right _ (List.mem_append_left _ hb)))))))))))))) : ∀ b ∈ L1858, b ∈ (p1935 :: (p1925 :: (D1879 :: (D980 :: (a1238 :: (D1711 :: (p838 :: (p904 :: (p1105 :: (p1225 :: (L1094 ++ (L1240 ++ (L1858 ++ [])))))))))))))) b hb, (there_ne (fun b_ hb_ => (S1933.ow b_ (((fun b hb => (.tail _ (.tail _ (.tail _ (.tail _ (.tail _ (.tail _ (.tail _ (.tail _ (.tail _ (List.mem_append_right _ (List.mem_append_right _ (List.mem_append_left _ hb))))))))))))) : ∀ b ∈ L1858, b ∈ (p1925 :: (D1879 :: (D980 :: (a1238 :: (D1711 :: (p838 :: (p904 :: (p1105 :: (p1225 :: (L1094 ++ (L1240 ++ (L1858 ++ []))))))))))))) b_ hb_)).2.1) n1936) b hb⟩) all_nil)))))))))))))
                                      have h1948 := (e1939 _ _ (e1929 _ _ h1902))
                                      refine ⟨_, h1948, (app_len (RpAll.mono eG1945 d1907) z1922), ?_⟩
                                      generalize g1949 : upd H1938 D1879 _ = H1950
                                      obtain ⟨x1951, h1952⟩ := gen_mut g1949
                                      have S1953 := S1947.mut1 x1951 (.tail _ (.head _)) h1952
                                      have hw := cW_ok hw
                                      have h1954 := (x1951 _ _ (e1939 _ _ (e1929 _ _ h1912)) (ne_of_none (e1871 _ _ (x1864 _ _ (e1849 _ _ (e1839 _ _ h1824)) (ne_of_none h1707 n1712))) n1880))
                                      have h1955 := (x1951 _ _ (e1939 _ _ (e1929 _ _ h1913)) (ne_of_none (e1871 _ _ (x1864 _ _ (e1849 _ _ (e1839 _ _ h1825)) (ne_of_none (e1704 _ _ (e1697 _ _ h1685)) n1712))) n1880))
                                      have h1956 := (x1951 _ _ (e1939 _ _ (e1929 _ _ h1914)) (ne_of_none (e1871 _ _ h1866) n1880))
                                      have h1957 := (x1951 _ _ (e1939 _ _ (e1929 _ _ h1915)) (ne_of_none (e1871 _ _ (x1864 _ _ (e1849 _ _ (e1839 _ _ h1827)) (ne_of_none (e1704 _ _ (e1697 _ _ h1687)) n1712))) n1880))
                                      have h1958 := (x1951 _ _ (e1939 _ _ (e1929 _ _ h1916)) (ne_of_none (e1871 _ _ (x1864 _ _ (e1849 _ _ (e1839 _ _ h1828)) (ne_of_none (e1704 _ _ (e1697 _ _ h1688)) n1712))) n1880))
                                      have h1959 := (x1951 _ _ (e1939 _ _ (e1929 _ _ h1917)) (ne_of_none (e1871 _ _ (x1864 _ _ (e1849 _ _ (e1839 _ _ h1829)) (ne_of_none (e1704 _ _ (e1697 _ _ h1689)) n1712))) n1880))
                                      have h1960 := (x1951 _ _ (e1939 _ _ (e1929 _ _ h1918)) (ne_of_none (e1871 _ _ (x1864 _ _ (e1849 _ _ (e1839 _ _ h1830)) (ne_of_none (e1704 _ _ (e1697 _ _ h1690)) n1712))) n1880))
                                      have w1961 : OwAll G1944 H1950 L1094 (vs1092) ((acc1091 : (List (List Int))).map (oL oI)) := (OwAll.mono eG1945 keeps_refl (OwAll.mono (Same.refl _) (keeps_mut x1951 ((there_ne (fun b_ hb_ => (S1872.ow b_ (((fun b hb => (.tail _ (.tail _ (.tail _ (List.mem_append_right _ (.tail _ (.tail _ (.tail _ (.tail _ (.tail _ (.tail _ (.tail _ (List.mem_append_left _ hb))))))))))))) : ∀ b ∈ L1094, b ∈ (p1845 :: (p1835 :: (D1711 :: (L1820 ++ (D980 :: (a1238 :: (D1322 :: (p838 :: (p904 :: (p1105 :: (p1225 :: (L1094 ++ (L1240 ++ (L1444 ++ []))))))))))))))) b_ hb_)).2.1) n1880) : ∀ b ∈ L1094, b ≠ D1879)) (OwAll.mono (Same.refl _) (keeps_same e1939) (OwAll.mono (Same.refl _) (keeps_same e1929) w1919))))
                                      have w1962 : OwAll G1944 H1950 L1240 (vs1239) ((v1235 : (List (List Int))).map (oL oI)) := (OwAll.mono eG1945 keeps_refl (OwAll.mono (Same.refl _) (keeps_mut x1951 ((there_ne (fun b_ hb_ => (S1872.ow b_ (((fun b hb => (.tail _ (.tail _ (.tail _ (List.mem_append_right _ (.tail _ (.tail _ (.tail _ (.tail _ (.tail _ (.tail _ (.tail _ (List.mem_append_right _ (List.mem_append_left _ hb)))))))))))))) : ∀ b ∈ L1240, b ∈ (p1845 :: (p1835 :: (D1711 :: (L1820 ++ (D980 :: (a1238 :: (D1322 :: (p838 :: (p904 :: (p1105 :: (p1225 :: (L1094 ++ (L1240 ++ (L1444 ++ []))))))))))))))) b_ hb_)).2.1) n1880) : ∀ b ∈ L1240, b ≠ D1879)) (OwAll.mono (Same.refl _) (keeps_same e1939) (OwAll.mono (Same.refl _) (keeps_same e1929) w1920))))
                                      have w1963 : OwAll G1944 H1950 L1858 ((vs1818).set ((ixN (vs1818).length ((((v818 + x814) / 51) % (4 + (4 * ((v818 + x814) % 2)))))).getD 0) (V.ref p1845)) ((setL (acc1817) ((((v818 + x814) / 51) % (4 + (4 * ((v818 + x814) % 2))))) (repL ([0]) ((12 - (4 + (4 * ((v818 + x814) % 2)))))) : (List (List Int))).map (oL oI)) := (OwAll.mono eG1945 keeps_refl (OwAll.mono (Same.refl _) (keeps_mut x1951 ((fun b hb => ((all_app (there_ne (fun b_ hb_ => (S1872.ow b_ (((fun b hb => (.tail _ (.tail _ (.tail _ (List.mem_append_left _ hb))))) : ∀ b ∈ L1820, b ∈ (p1845 :: (p1835 :: (D1711 :: (L1820 ++ (D980 :: (a1238 :: (D1322 :: (p838 :: (p904 :: (p1105 :: (p1225 :: (L1094 ++ (L1240 ++ (L1444 ++ []))))))))))))))) b_ hb_)).2.1) n1880) (all_cons (ne_of_none (e1871 _ _ (x1864 _ _ h1851 (ne_of_none (e1839 _ _ h1814) n1846).symm)) n1880) all_nil)) : ∀ b ∈ (L1820 ++ (p1845 :: ([] : List Addr))), b ≠ D1879) b (hL1859 b hb)) : ∀ b ∈ L1858, b ≠ D1879)) (OwAll.mono (Same.refl _) (keeps_same e1939) (OwAll.mono (Same.refl _) (keeps_same e1929) w1921))))
                                      exact ⟨_, (acc1905 ++ [repL ([0]) ((12 - (4 + (4 * ((v818 + x814) % 2)))))]), _, (Same.trans eG1904 eG1945), (S1953.sub (all_cons (.tail _ (.head _)) (all_cons (.tail _ (.tail _ (.head _))) (all_cons (.tail _ (.tail _ (.tail _ (.head _)))) (all_cons (.tail _ (.tail _ (.tail _ (.tail _ (.head _))))) (all_cons (.tail _ (.tail _ (.tail _ (.tail _ (.tail _ (.head _)))))) (all_cons (.tail _ (.tail _ (.tail _ (.tail _ (.tail _ (.tail _ (.head _))))))) (all_cons (.tail _ (.tail _ (.tail _ (.tail _ (.tail _ (.tail _ (.tail _ (.head _)))))))) (all_cons (.tail _ (.tail _ (.tail _ (.tail _ (.tail _ (.tail _ (.tail _ (.tail _ (.head _))))))))) (all_app ((fun b hb => (.tail _ (.tail _ (.tail _ (.tail _ (.tail _ (.tail _ (.tail _ (.tail _ (.tail _ (List.mem_append_left _ hb))))))))))) : ∀ b ∈ L1094, b ∈ (p1925 :: (D1879 :: (D980 :: (a1238 :: (D1711 :: (p838 :: (p904 :: (p1105 :: (p1225 :: (L1094 ++ (L1240 ++ (L1858 ++ []))))))))))))) (all_app ((fun b hb => (.tail _ (.tail _ (.tail _ (.tail _ (.tail _ (.tail _ (.tail _ (.tail _ (.tail _ (List.mem_append_right _ (List.mem_append_left _ hb)))))))))))) : ∀ b ∈ L1240, b ∈ (p1925 :: (D1879 :: (D980 :: (a1238 :: (D1711 :: (p838 :: (p904 :: (p1105 :: (p1225 :: (L1094 ++ (L1240 ++ (L1858 ++ []))))))))))))) (all_app ((fun b hb => (.tail _ (.tail _ (.tail _ (.tail _ (.tail _ (.tail _ (.tail _ (.tail _ (.tail _ (List.mem_append_right _ (List.mem_append_right _ (List.mem_append_left _ hb))))))))))))) : ∀ b ∈ L1858, b ∈ (p1925 :: (D1879 :: (D980 :: (a1238 :: (D1711 :: (p838 :: (p904 :: (p1105 :: (p1225 :: (L1094 ++ (L1240 ++ (L1858 ++ []))))))))))))) all_nil)))))))))))), h1954, h1955, h1956, h1957, h1958, h1959, h1960, h1952, w1961, w1962, w1963, (app_map (RpAll.mono eG1945 d1907) (RpAll.one (rp_mk_ints hg1946))), (same_mut (Same.trans (Same.trans eo1911 e1929) e1939) x1951 n1880), hw⟩
                                    intro H1964 hw
                                    obtain ⟨G1967, acc1969, vs1970, eG1968, S1965, h1976, h1977, h1978, h1979, h1980, h1981, h1982, h1966, w1983, w1984, w1985, d1971, eo1975, hw⟩ := hw
                                    have hw := hK1878 _ (cW_mapA0 (rng_len _ _).symm hw)
                                    have fr1986 := S1872.free n1880
                                    refine ⟨rfl, rfl, G1967, _, _, _, _, rfl, S1965.sG, (Rp.hide_nil (rp_mk_list h1966 (RpAll.mono S1965.sG d1971))), cW_call hw (fun v1987 hw H1988 e1989 => ?_) (fun e he => (hE e he).elim)⟩
                                    have S1990 := S1965.same e1989
                                    refine ⟨_, rfl, ?_⟩
                                    refine iteBN (fun c1991 => ?_) (fun c1991 => ?_)
                                    · have hw := cW_negB c1991 hw
                                      have hw := cW_ok hw
                                      have hw := hK816 (.rt _) hw
                                      have hw := hK795 (.rt _) hw
                                      have hw := cW_ok hw
                                      exact eq_bl (k _) (hK0 _ hw).symm
                                    · have hw := cW_pos c1991 hw
                                      have hw := cW_ok hw
                                      have hw := hK816 _ hw
                                      exact ⟨_, _, _, _, _, _, _, _, _, _, _, _, _, _, _, rfl, (Same.trans (Same.trans (Same.trans (Same.trans (Same.trans (Same.trans (Same.trans (Same.trans (Same.trans (Same.trans (Same.trans (Same.trans (Same.trans (Same.trans (Same.trans eG813 eG826) eG842) eG861) eG880) eG973) eG1090) eG1210) eG1245) eG1296) eG1318) eG1419) eG1581) eG1676) eG1816) eG1968), (S1990.sub all_nil), hw⟩
    · intro σ H1992 hw
      obtain ⟨u796, u797, u798, u799, u800, u801, u802, u803, u804, u805, u806, u807, u808, u809, G1994, rfl, eG1995, S1993, hw⟩ := hw
      have hw := cW_aftgo (hK795 _ (cW_forR0 (rng_len _ _).symm hw))
      have hw : cW (F_law_r1  ) _ EE := hw
      unfold F_law_r1 at hw
      have hw := cW_ok hw
      exact eq_bl (k _) (hK0 _ hw).symm
end
def spL (K : PySem.W.Frag) : Sp := fun vs H Q _ => ∃ (a_script : Addr) (script : List Int), vs = [.ref a_script] ∧ SqL K H a_script (script.map V.int) ∧ script.length ≤ 63 ∧ ∀ H', Q (.bl true) H'
theorem all_mk {l : PySem.W.OpenLaw} {w : World} {K : PySem.W.Frag} {h : Heap} {mg : Str → Option Value} {fa : Addr} (X : K.In h) (G : h.Ns mainGlobals mg) (hfa : mg "law" = some (.ref fa))
    {f0 f1 f2 f3 f4 f5 f6 f7 f8 f9 f10 f11 XOutOfRange : Addr} {od0 an0 od1 an1 od2 an2 od3 an3 od4 an4 od5 an5 od6 an6 od7 an7 od8 an8 od9 an9 od10 an10 od11 an11 : Option Addr} {sl0 sl1 sl2 sl3 sl4 sl5 sl6 sl7 sl8 sl9 sl10 sl11 : Array (Option Value)} {oc0 kV0 dc0 pm0 cd0 ct0 oc1 kV1 dc1 pm1 cd1 ct1 oc2 kV2 dc2 pm2 cd2 ct2 oc3 kV3 dc3 pm3 cd3 ct3 oc4 kV4 dc4 pm4 cd4 ct4 oc5 kV5 dc5 pm5 cd5 ct5 oc6 kV6 dc6 pm6 cd6 ct6 oc7 kV7 dc7 pm7 cd7 ct7 oc8 kV8 dc8 pm8 cd8 ct8 oc9 kV9 dc9 pm9 cd9 ct9 oc10 kV10 dc10 pm10 cd10 ct10 oc11 kV11 dc11 pm11 cd11 ct11 : Value} {TG_SIZES : Addr} {td1 : Option Addr} {tn1 : Nat} {tsl1 : Array (Option Value)} {tk1_0 tk1_1 : Tok} {TG_SIZES_BY_COUNT : Addr} {tn4 : Nat} {tk4_0 tk4_1 tk4_2 tk4_3 : Tok}
    (vOutOfRange : PySem.W.nsIn K mainGlobals "OutOfRange" = some (some (.ref XOutOfRange))) (a0 : PySem.W.nsIn K mainGlobals "_law_order" = some (some (.ref f0))) (l0 : K.lookup f0 = some ⟨oc0, od0, .func (PySem.W.fnOf "_law_order" "_law_order" (defArgs s__law_order) (defBody s__law_order) (defScope s__law_order) .none kV0 dc0 pm0 an0 cd0 ct0), sl0⟩) (c0 : PySem.W.codeIn K cd0 "_law_order" = true) (k0 : PySem.W.keepIn K (.ref f0) = true) (a1 : PySem.W.nsIn K mainGlobals "check_size" = some (some (.ref f1))) (l1 : K.lookup f1 = some ⟨oc1, od1, .func (PySem.W.fnOf "check_size" "check_size" (defArgs s_check_size) (defBody s_check_size) (defScope s_check_size) .none kV1 dc1 pm1 an1 cd1 ct1), sl1⟩) (c1 : PySem.W.codeIn K cd1 "check_size" = true) (k1 : PySem.W.keepIn K (.ref f1) = true) (a2 : PySem.W.nsIn K mainGlobals "scan_order" = some (some (.ref f2))) (l2 : K.lookup f2 = some ⟨oc2, od2, .func (PySem.W.fnOf "scan_order" "scan_order" (defArgs s_scan_order) (defBody s_scan_order) (defScope s_scan_order) .none kV2 dc2 pm2 an2 cd2 ct2), sl2⟩) (c2 : PySem.W.codeIn K cd2 "scan_order" = true) (k2 : PySem.W.keepIn K (.ref f2) = true) (a3 : PySem.W.nsIn K mainGlobals "_law_digits" = some (some (.ref f3))) (l3 : K.lookup f3 = some ⟨oc3, od3, .func (PySem.W.fnOf "_law_digits" "_law_digits" (defArgs s__law_digits) (defBody s__law_digits) (defScope s__law_digits) .none kV3 dc3 pm3 an3 cd3 ct3), sl3⟩) (c3 : PySem.W.codeIn K cd3 "_law_digits" = true) (k3 : PySem.W.keepIn K (.ref f3) = true) (a4 : PySem.W.nsIn K mainGlobals "check_square" = some (some (.ref f4))) (l4 : K.lookup f4 = some ⟨oc4, od4, .func (PySem.W.fnOf "check_square" "check_square" (defArgs s_check_square) (defBody s_check_square) (defScope s_check_square) .none kV4 dc4 pm4 an4 cd4 ct4), sl4⟩) (c4 : PySem.W.codeIn K cd4 "check_square" = true) (k4 : PySem.W.keepIn K (.ref f4) = true) (a5 : PySem.W.nsIn K mainGlobals "to_levels" = some (some (.ref f5))) (l5 : K.lookup f5 = some ⟨oc5, od5, .func (PySem.W.fnOf "to_levels" "to_levels" (defArgs s_to_levels) (defBody s_to_levels) (defScope s_to_levels) .none kV5 dc5 pm5 an5 cd5 ct5), sl5⟩) (c5 : PySem.W.codeIn K cd5 "to_levels" = true) (k5 : PySem.W.keepIn K (.ref f5) = true) (a6 : PySem.W.nsIn K mainGlobals "to_square" = some (some (.ref f6))) (l6 : K.lookup f6 = some ⟨oc6, od6, .func (PySem.W.fnOf "to_square" "to_square" (defArgs s_to_square) (defBody s_to_square) (defScope s_to_square) .none kV6 dc6 pm6 an6 cd6 ct6), sl6⟩) (c6 : PySem.W.codeIn K cd6 "to_square" = true) (k6 : PySem.W.keepIn K (.ref f6) = true) (a7 : PySem.W.nsIn K mainGlobals "_law_cell" = some (some (.ref f7))) (l7 : K.lookup f7 = some ⟨oc7, od7, .func (PySem.W.fnOf "_law_cell" "_law_cell" (defArgs s__law_cell) (defBody s__law_cell) (defScope s__law_cell) .none kV7 dc7 pm7 an7 cd7 ct7), sl7⟩) (c7 : PySem.W.codeIn K cd7 "_law_cell" = true) (k7 : PySem.W.keepIn K (.ref f7) = true) (a8 : PySem.W.nsIn K mainGlobals "_law_is_integers" = some (some (.ref f8))) (l8 : K.lookup f8 = some ⟨oc8, od8, .func (PySem.W.fnOf "_law_is_integers" "_law_is_integers" (defArgs s__law_is_integers) (defBody s__law_is_integers) (defScope s__law_is_integers) .none kV8 dc8 pm8 an8 cd8 ct8), sl8⟩) (c8 : PySem.W.codeIn K cd8 "_law_is_integers" = true) (k8 : PySem.W.keepIn K (.ref f8) = true) (a9 : PySem.W.nsIn K mainGlobals "_law_is_square" = some (some (.ref f9))) (l9 : K.lookup f9 = some ⟨oc9, od9, .func (PySem.W.fnOf "_law_is_square" "_law_is_square" (defArgs s__law_is_square) (defBody s__law_is_square) (defScope s__law_is_square) .none kV9 dc9 pm9 an9 cd9 ct9), sl9⟩) (c9 : PySem.W.codeIn K cd9 "_law_is_square" = true) (k9 : PySem.W.keepIn K (.ref f9) = true) (a10 : PySem.W.nsIn K mainGlobals "_law_refused" = some (some (.ref f10))) (l10 : K.lookup f10 = some ⟨oc10, od10, .func (PySem.W.fnOf "_law_refused" "_law_refused" (defArgs s__law_refused) (defBody s__law_refused) (defScope s__law_refused) .none kV10 dc10 pm10 an10 cd10 ct10), sl10⟩) (c10 : PySem.W.codeIn K cd10 "_law_refused" = true) (k10 : PySem.W.keepIn K (.ref f10) = true) (a11 : PySem.W.nsIn K mainGlobals "law" = some (some (.ref f11))) (l11 : K.lookup f11 = some ⟨oc11, od11, .func (PySem.W.fnOf "law" "law" (defArgs s_law) (defBody s_law) (defScope s_law) .none kV11 dc11 pm11 an11 cd11 ct11), sl11⟩) (c11 : PySem.W.codeIn K cd11 "law" = true) (k11 : PySem.W.keepIn K (.ref f11) = true)
    (z0 : PySem.W.nsIn K mainGlobals "range" = some none) (z1 : PySem.W.nsIn K mainGlobals "SIZES" = some (some (.ref TG_SIZES))) (y1 : K.lookup TG_SIZES = some ⟨.type "tuple", td1, .seq #[.int 4 tk1_0, .int 8 tk1_1] tn1, tsl1⟩) (z2 : PySem.W.nsIn K mainGlobals "int" = some none) (z3 : PySem.W.nsIn K mainGlobals "len" = some none) (z4 : PySem.W.nsIn K mainGlobals "SIZES_BY_COUNT" = some (some (.ref TG_SIZES_BY_COUNT))) (y4 : K.lookup TG_SIZES_BY_COUNT = some ⟨.type "dict", none, .dict #[⟨hashInt 16, .int 16 tk4_0, .int 4 tk4_1⟩, ⟨hashInt 64, .int 64 tk4_2, .int 8 tk4_3⟩] tn4, #[]⟩) (u4 : (TG_SIZES_BY_COUNT == sysModules) = false) (z5 : PySem.W.nsIn K mainGlobals "zip" = some none) (z6 : PySem.W.nsIn K mainGlobals "abs" = some none) (z7 : PySem.W.nsIn K mainGlobals "isinstance" = some none) (z8 : PySem.W.nsIn K mainGlobals "list" = some none) (z9 : PySem.W.nsIn K mainGlobals "bool" = some none) (z10 : PySem.W.nsIn K mainGlobals "repr" = some none) (z11 : PySem.W.nsIn K mainGlobals "min" = some none) (exOutOfRange : PySem.W.excIn K XOutOfRange [.type "ValueError", .type "Exception", .type "BaseException", .type "object"] "ValueError.__new__" = true) (ekOutOfRange : PySem.W.keepIn K (.ref XOutOfRange) = true) (ebOutOfRange : PySem.W.subIn K (.ref XOutOfRange) (.type "BaseException") = some true) (etOutOfRange : PySem.W.typeIn K (.ref XOutOfRange) = some (.type "type")) (eiOutOfRangeOutOfRange : PySem.W.isClsIn K XOutOfRange = true) (esOutOfRangeOutOfRange : PySem.W.subIn K (.ref XOutOfRange) (.ref XOutOfRange) = some true) :
    ∃ fd : FuncData, (∀ (s : Shared) (v : Value), BindsTo s fd ⟨[v], []⟩ [("script", v)]) ∧ ∀ base : Heap, K.In base → base.Ns mainGlobals mg → FnG l.prog w K mg base CX0 5 fa fd ["script"] (spL K) := by
  have e := hfa.symm.trans (PySem.W.mg_of X G a11)
  cases e
  have T : Txt K mg ⟨fa, XOutOfRange, TG_SIZES, TG_SIZES_BY_COUNT, fa⟩ := ⟨PySem.W.mg_none_of X G z0, ⟨_, PySem.W.mg_of X G z1, rfl⟩, fun H => .inr ⟨_, _, _, y1, rfl, rfl, (by show 2 ≤ sizeLine; decide), (.cons ⟨_, rfl⟩ (.cons ⟨_, rfl⟩ .nil))⟩, PySem.W.mg_none_of X G z2, PySem.W.mg_none_of X G z3, ⟨_, PySem.W.mg_of X G z4, rfl⟩, ⟨_, _, y4, u4, (.cons (.cons .nil))⟩, PySem.W.mg_none_of X G z5, PySem.W.mg_none_of X G z6, PySem.W.mg_none_of X G z7, PySem.W.mg_none_of X G z8, PySem.W.mg_none_of X G z9, PySem.W.mg_none_of X G z10, PySem.W.mg_none_of X G z11, PySem.W.mg_of X G vOutOfRange, exOutOfRange, ekOutOfRange, ebOutOfRange, etOutOfRange, exm_mk ebOutOfRange eiOutOfRangeOutOfRange etOutOfRange esOutOfRangeOutOfRange⟩
  have F0 : FunD K "_law_order" "_law_order" (defArgs s__law_order) (defBody s__law_order) (defScope s__law_order) [] [] f0 _ := ⟨⟨_, _, _, _, _, _, _, _, _, _, rfl, l0, c0, .inl ⟨rfl, rfl⟩, .inl rfl⟩, k0⟩
  have D_0 : DefX K mg "_law_order" s__law_order ["size"] pats__law_order := ⟨_, _, _, _, F0, PySem.W.mg_of X G a0, (all_consQ (Bnd.all fun us ws vs zs l1 l2 r rz => by
      obtain ⟨u0, rfl⟩ := len1 (r.length.symm.trans l1)
      obtain rfl := len0 (rz.length.symm.trans l2)
      cases r with | cons r0 r =>
        cases r
        cases rz
        exact ⟨[u0], rfl, (.cons r0 .nil)⟩) all_nilQ)⟩
  have F1 : FunD K "check_size" "check_size" (defArgs s_check_size) (defBody s_check_size) (defScope s_check_size) [] [] f1 _ := ⟨⟨_, _, _, _, _, _, _, _, _, _, rfl, l1, c1, .inl ⟨rfl, rfl⟩, .inl rfl⟩, k1⟩
  have D_1 : DefX K mg "check_size" s_check_size ["size"] pats_check_size := ⟨_, _, _, _, F1, PySem.W.mg_of X G a1, (all_consQ (Bnd.all fun us ws vs zs l1 l2 r rz => by
      obtain ⟨u0, rfl⟩ := len1 (r.length.symm.trans l1)
      obtain rfl := len0 (rz.length.symm.trans l2)
      cases r with | cons r0 r =>
        cases r
        cases rz
        exact ⟨[u0], rfl, (.cons r0 .nil)⟩) all_nilQ)⟩
  have F2 : FunD K "scan_order" "scan_order" (defArgs s_scan_order) (defBody s_scan_order) (defScope s_scan_order) [] [] f2 _ := ⟨⟨_, _, _, _, _, _, _, _, _, _, rfl, l2, c2, .inl ⟨rfl, rfl⟩, .inl rfl⟩, k2⟩
  have D_2 : DefX K mg "scan_order" s_scan_order ["size"] pats_scan_order := ⟨_, _, _, _, F2, PySem.W.mg_of X G a2, (all_consQ (Bnd.all fun us ws vs zs l1 l2 r rz => by
      obtain ⟨u0, rfl⟩ := len1 (r.length.symm.trans l1)
      obtain rfl := len0 (rz.length.symm.trans l2)
      cases r with | cons r0 r =>
        cases r
        cases rz
        exact ⟨[u0], rfl, (.cons r0 .nil)⟩) all_nilQ)⟩
  have F3 : FunD K "_law_digits" "_law_digits" (defArgs s__law_digits) (defBody s__law_digits) (defScope s__law_digits) [] [] f3 _ := ⟨⟨_, _, _, _, _, _, _, _, _, _, rfl, l3, c3, .inl ⟨rfl, rfl⟩, .inl rfl⟩, k3⟩
  have D_3 : DefX K mg "_law_digits" s__law_digits ["cell", "base", "most"] pats__law_digits := ⟨_, _, _, _, F3, PySem.W.mg_of X G a3, (all_consQ (Bnd.all fun us ws vs zs l1 l2 r rz => by
      obtain ⟨u0, u1, u2, rfl⟩ := len3 (r.length.symm.trans l1)
      obtain rfl := len0 (rz.length.symm.trans l2)
      cases r with | cons r0 r =>
        cases r with | cons r1 r =>
          cases r with | cons r2 r =>
            cases r
            cases rz
            exact ⟨[u0, u1, u2], rfl, (.cons r0 (.cons r1 (.cons r2 .nil)))⟩) all_nilQ)⟩
  have F4 : FunD K "check_square" "check_square" (defArgs s_check_square) (defBody s_check_square) (defScope s_check_square) [] [] f4 _ := ⟨⟨_, _, _, _, _, _, _, _, _, _, rfl, l4, c4, .inl ⟨rfl, rfl⟩, .inl rfl⟩, k4⟩
  have D_4 : DefX K mg "check_square" s_check_square ["square"] pats_check_square := ⟨_, _, _, _, F4, PySem.W.mg_of X G a4, (all_consQ (Bnd.all fun us ws vs zs l1 l2 r rz => by
      obtain ⟨u0, rfl⟩ := len1 (r.length.symm.trans l1)
      obtain rfl := len0 (rz.length.symm.trans l2)
      cases r with | cons r0 r =>
        cases r
        cases rz
        exact ⟨[u0], rfl, (.cons r0 .nil)⟩) all_nilQ)⟩
  have F5 : FunD K "to_levels" "to_levels" (defArgs s_to_levels) (defBody s_to_levels) (defScope s_to_levels) [] [] f5 _ := ⟨⟨_, _, _, _, _, _, _, _, _, _, rfl, l5, c5, .inl ⟨rfl, rfl⟩, .inl rfl⟩, k5⟩
  have D_5 : DefX K mg "to_levels" s_to_levels ["square"] pats_to_levels := ⟨_, _, _, _, F5, PySem.W.mg_of X G a5, (all_consQ (Bnd.all fun us ws vs zs l1 l2 r rz => by
      obtain ⟨u0, rfl⟩ := len1 (r.length.symm.trans l1)
      obtain rfl := len0 (rz.length.symm.trans l2)
      cases r with | cons r0 r =>
        cases r
        cases rz
        exact ⟨[u0], rfl, (.cons r0 .nil)⟩) all_nilQ)⟩
  have F6 : FunD K "to_square" "to_square" (defArgs s_to_square) (defBody s_to_square) (defScope s_to_square) [] [] f6 _ := ⟨⟨_, _, _, _, _, _, _, _, _, _, rfl, l6, c6, .inl ⟨rfl, rfl⟩, .inl rfl⟩, k6⟩
  have D_6 : DefX K mg "to_square" s_to_square ["levels"] pats_to_square := ⟨_, _, _, _, F6, PySem.W.mg_of X G a6, (all_consQ (Bnd.all fun us ws vs zs l1 l2 r rz => by
      obtain ⟨u0, rfl⟩ := len1 (r.length.symm.trans l1)
      obtain rfl := len0 (rz.length.symm.trans l2)
      cases r with | cons r0 r =>
        cases r
        cases rz
        exact ⟨[u0], rfl, (.cons r0 .nil)⟩) all_nilQ)⟩
  have F7 : FunD K "_law_cell" "_law_cell" (defArgs s__law_cell) (defBody s__law_cell) (defScope s__law_cell) [] [] f7 _ := ⟨⟨_, _, _, _, _, _, _, _, _, _, rfl, l7, c7, .inl ⟨rfl, rfl⟩, .inl rfl⟩, k7⟩
  have D_7 : DefX K mg "_law_cell" s__law_cell ["script", "k"] pats__law_cell := ⟨_, _, _, _, F7, PySem.W.mg_of X G a7, (all_consQ (Bnd.all fun us ws vs zs l1 l2 r rz => by
      obtain ⟨u0, u1, rfl⟩ := len2 (r.length.symm.trans l1)
      obtain rfl := len0 (rz.length.symm.trans l2)
      cases r with | cons r0 r =>
        cases r with | cons r1 r =>
          cases r
          cases rz
          exact ⟨[u0, u1], rfl, (.cons r0 (.cons r1 .nil))⟩) all_nilQ)⟩
  have F8 : FunD K "_law_is_integers" "_law_is_integers" (defArgs s__law_is_integers) (defBody s__law_is_integers) (defScope s__law_is_integers) [] [] f8 _ := ⟨⟨_, _, _, _, _, _, _, _, _, _, rfl, l8, c8, .inl ⟨rfl, rfl⟩, .inl rfl⟩, k8⟩
  have D_8 : DefX K mg "_law_is_integers" s__law_is_integers ["actual", "count"] pats__law_is_integers := ⟨_, _, _, _, F8, PySem.W.mg_of X G a8, (all_consQ (Bnd.all fun us ws vs zs l1 l2 r rz => by
      obtain ⟨u0, u1, rfl⟩ := len2 (r.length.symm.trans l1)
      obtain rfl := len0 (rz.length.symm.trans l2)
      cases r with | cons r0 r =>
        cases r with | cons r1 r =>
          cases r
          cases rz
          exact ⟨[u0, u1], rfl, (.cons r0 (.cons r1 .nil))⟩) all_nilQ)⟩
  have F9 : FunD K "_law_is_square" "_law_is_square" (defArgs s__law_is_square) (defBody s__law_is_square) (defScope s__law_is_square) [] [] f9 _ := ⟨⟨_, _, _, _, _, _, _, _, _, _, rfl, l9, c9, .inl ⟨rfl, rfl⟩, .inl rfl⟩, k9⟩
  have D_9 : DefX K mg "_law_is_square" s__law_is_square ["actual", "size"] pats__law_is_square := ⟨_, _, _, _, F9, PySem.W.mg_of X G a9, (all_consQ (Bnd.all fun us ws vs zs l1 l2 r rz => by
      obtain ⟨u0, u1, rfl⟩ := len2 (r.length.symm.trans l1)
      obtain rfl := len0 (rz.length.symm.trans l2)
      cases r with | cons r0 r =>
        cases r with | cons r1 r =>
          cases r
          cases rz
          exact ⟨[u0, u1], rfl, (.cons r0 (.cons r1 .nil))⟩) all_nilQ)⟩
  have F10 : FunD K "_law_refused" "_law_refused" (defArgs s__law_refused) (defBody s__law_refused) (defScope s__law_refused) [] [] f10 _ := ⟨⟨_, _, _, _, _, _, _, _, _, _, rfl, l10, c10, .inl ⟨rfl, rfl⟩, .inl rfl⟩, k10⟩
  have D_10 : DefX K mg "_law_refused" s__law_refused ["size", "count", "rows"] pats__law_refused := ⟨_, _, _, _, F10, PySem.W.mg_of X G a10, (all_consQ (Bnd.all fun us ws vs zs l1 l2 r rz => by
      obtain ⟨u0, u1, u2, rfl⟩ := len3 (r.length.symm.trans l1)
      obtain rfl := len0 (rz.length.symm.trans l2)
      cases r with | cons r0 r =>
        cases r with | cons r1 r =>
          cases r with | cons r2 r =>
            cases r
            cases rz
            exact ⟨[u0, u1, u2], rfl, (.cons r0 (.cons r1 (.cons r2 .nil)))⟩) all_nilQ)⟩
  have F11 : FunD K "law" "law" (defArgs s_law) (defBody s_law) (defScope s_law) [] [] _ _ := ⟨⟨_, _, _, _, _, _, _, _, _, _, rfl, l11, c11, .inl ⟨rfl, rfl⟩, .inl rfl⟩, k11⟩
  have R__law_order : ∀ base : Heap, CalX l.prog w K mg base 1 "_law_order" (sp__law_order K ⟨fa, XOutOfRange, TG_SIZES, TG_SIZES_BY_COUNT, fa⟩) pats__law_order := fun base => ok__law_order D_0 T 
  have R_check_size : ∀ base : Heap, CalX l.prog w K mg base 1 "check_size" (sp_check_size K ⟨fa, XOutOfRange, TG_SIZES, TG_SIZES_BY_COUNT, fa⟩) pats_check_size := fun base => ok_check_size D_1 T 
  have R_scan_order : ∀ base : Heap, CalX l.prog w K mg base 2 "scan_order" (sp_scan_order K ⟨fa, XOutOfRange, TG_SIZES, TG_SIZES_BY_COUNT, fa⟩) pats_scan_order := fun base => ok_scan_order D_2 T (R_check_size base)
  have R__law_digits : ∀ base : Heap, CalX l.prog w K mg base 1 "_law_digits" (sp__law_digits K ⟨fa, XOutOfRange, TG_SIZES, TG_SIZES_BY_COUNT, fa⟩) pats__law_digits := fun base => ok__law_digits D_3 T 
  have R_check_square : ∀ base : Heap, CalX l.prog w K mg base 2 "check_square" (sp_check_square K ⟨fa, XOutOfRange, TG_SIZES, TG_SIZES_BY_COUNT, fa⟩) pats_check_square := fun base => ok_check_square D_4 T (R_check_size base)
  have R_to_levels : ∀ base : Heap, CalX l.prog w K mg base 3 "to_levels" (sp_to_levels K ⟨fa, XOutOfRange, TG_SIZES, TG_SIZES_BY_COUNT, fa⟩) pats_to_levels := fun base => ok_to_levels D_5 T (R_check_square base) (R_scan_order base)
  have R_to_square : ∀ base : Heap, CalX l.prog w K mg base 3 "to_square" (sp_to_square K ⟨fa, XOutOfRange, TG_SIZES, TG_SIZES_BY_COUNT, fa⟩) pats_to_square := fun base => ok_to_square D_6 T (R_scan_order base)
  have R__law_cell : ∀ base : Heap, CalX l.prog w K mg base 1 "_law_cell" (sp__law_cell K ⟨fa, XOutOfRange, TG_SIZES, TG_SIZES_BY_COUNT, fa⟩) pats__law_cell := fun base => ok__law_cell D_7 T 
  have R__law_is_integers : ∀ base : Heap, CalX l.prog w K mg base 1 "_law_is_integers" (sp__law_is_integers K ⟨fa, XOutOfRange, TG_SIZES, TG_SIZES_BY_COUNT, fa⟩) pats__law_is_integers := fun base => ok__law_is_integers D_8 T 
  have R__law_is_square : ∀ base : Heap, CalX l.prog w K mg base 1 "_law_is_square" (sp__law_is_square K ⟨fa, XOutOfRange, TG_SIZES, TG_SIZES_BY_COUNT, fa⟩) pats__law_is_square := fun base => ok__law_is_square D_9 T 
  have R__law_refused : ∀ base : Heap, CalX l.prog w K mg base 4 "_law_refused" (sp__law_refused K ⟨fa, XOutOfRange, TG_SIZES, TG_SIZES_BY_COUNT, fa⟩) pats__law_refused := fun base => ok__law_refused D_10 T (R_scan_order base) (R_to_square base) (R_to_levels base)

  refine ⟨PySem.W.fnOf "law" "law" (defArgs s_law) (defBody s_law) (defScope s_law) .none kV11 dc11 pm11 an11 cd11 ct11, fun s v => .of_eq rfl, fun base _ _ => (ok_law (AD := ⟨fa, XOutOfRange, TG_SIZES, TG_SIZES_BY_COUNT, fa⟩) F11 T (R__law_cell base) (R__law_order base) (R_scan_order base) (R__law_digits base) (R_to_levels base) (R__law_is_integers base) (R_to_square base) (R__law_is_square base) (R__law_refused base)).imp ?_⟩
  rintro vs H Q E ⟨a, xs, rfl, hs, hl, q⟩
  exact ⟨a, xs, rfl, hs, by rw [law_true xs hl]; exact cW_mk rfl, q⟩
end Vx
open PySem PySem.W PyProof.Rows
set_option maxRecDepth 100000 in
set_option maxHeartbeats 0 in
theorem PySem.Challenge.cw_thaumatrope_k46_levels_in_scan_order_holds : PySem.Challenge.rw_thaumatrope_k46_levels_in_scan_order.Holds := by
  w_on; o_law; k_head; (case hw => w_witness2)
  k_fill
  refine Vx.walkG (l := PySem.Challenge.rw_thaumatrope_k46_levels_in_scan_order) (n := 63) (k := 5) (x := "script") rfl (by decide) rfl ⟨rfl, by decide, by decide⟩ (fun w h Y => PySem.W.kIn_of Y) ?F
  case F =>
    intro w mg fa h KX G hmg
    refine' Vx.all_mk KX G hmg ?vOutOfRange ?a0 ?l0 ?c0 ?k0 ?a1 ?l1 ?c1 ?k1 ?a2 ?l2 ?c2 ?k2 ?a3 ?l3 ?c3 ?k3 ?a4 ?l4 ?c4 ?k4 ?a5 ?l5 ?c5 ?k5 ?a6 ?l6 ?c6 ?k6 ?a7 ?l7 ?c7 ?k7 ?a8 ?l8 ?c8 ?k8 ?a9 ?l9 ?c9 ?k9 ?a10 ?l10 ?c10 ?k10 ?a11 ?l11 ?c11 ?k11 ?z0 ?z1 ?y1 ?z2 ?z3 ?z4 ?y4 ?u4 ?z5 ?z6 ?z7 ?z8 ?z9 ?z10 ?z11 ?exOutOfRange ?ekOutOfRange ?ebOutOfRange ?etOutOfRange ?eiOutOfRangeOutOfRange ?esOutOfRangeOutOfRange
    (case vOutOfRange => k_is)
    (case a0 => k_is)
    (case l0 => k_is)
    (case c0 => k_is)
    (case k0 => k_is)
    (case a1 => k_is)
    (case l1 => k_is)
    (case c1 => k_is)
    (case k1 => k_is)
    (case a2 => k_is)
    (case l2 => k_is)
    (case c2 => k_is)
    (case k2 => k_is)
    (case a3 => k_is)
    (case l3 => k_is)
    (case c3 => k_is)
    (case k3 => k_is)
    (case a4 => k_is)
    (case l4 => k_is)
    (case c4 => k_is)
    (case k4 => k_is)
    (case a5 => k_is)
    (case l5 => k_is)
    (case c5 => k_is)
    (case k5 => k_is)
    (case a6 => k_is)
    (case l6 => k_is)
    (case c6 => k_is)
    (case k6 => k_is)
    (case a7 => k_is)
    (case l7 => k_is)
    (case c7 => k_is)
    (case k7 => k_is)
    (case a8 => k_is)
    (case l8 => k_is)
    (case c8 => k_is)
    (case k8 => k_is)
    (case a9 => k_is)
    (case l9 => k_is)
    (case c9 => k_is)
    (case k9 => k_is)
    (case a10 => k_is)
    (case l10 => k_is)
    (case c10 => k_is)
    (case k10 => k_is)
    (case a11 => k_is)
    (case l11 => k_is)
    (case c11 => k_is)
    (case k11 => k_is)
    (case z0 => k_is)
    (case z1 => k_is)
    (case y1 => k_is)
    (case z2 => k_is)
    (case z3 => k_is)
    (case z4 => k_is)
    (case y4 => k_is)
    (case u4 => rfl)
    (case z5 => k_is)
    (case z6 => k_is)
    (case z7 => k_is)
    (case z8 => k_is)
    (case z9 => k_is)
    (case z10 => k_is)
    (case z11 => k_is)
    (case exOutOfRange => k_exc)
    (case ekOutOfRange => k_is)
    (case ebOutOfRange => k_is)
    (case etOutOfRange => k_is)
    (case eiOutOfRangeOutOfRange => k_is)
    (case esOutOfRangeOutOfRange => first | rfl | k_is)
