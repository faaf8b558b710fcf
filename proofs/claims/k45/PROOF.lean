import PyProof.Rows.All
import Wide.All
import OpenK.AllK
import Wide.FinOn
import HandS.ForMost
import HandS.Codes
import HandS.Steps
import HandS.IsInst
import HandS.Property
import HandS.Wide
import HandS.WideBits
import HandS.Exc
import HandS.Defaults
import HandS.ExcOwn
import HandS.TryOnly
import HandS.WordsExc
import HandS.ExcIs
import HandS.MakeKwOnly
import HandS.RaiseMore
import HandS.Style
import HandS.Zip
import HandS.Iter
import PySem.Challenge.RW_thaumatrope_k45_squares_quantized
set_option Elab.async false
set_option linter.all false
set_option maxRecDepth 100000
set_option maxHeartbeats 8000000
namespace Vx
open PySem PySem.Spec PyProof.Rows L2

/-! ### heaps -/
def SameX (m : Addr) (H H' : Hp) : Prop := ∀ b o, H b = some o → b ≠ m → H' b = some o
theorem gen_new {H H' : Hp} {p : Addr} {o : HO} (n : H p = none) (h : upd H p o = H') : Same H H' ∧ H' p = some o := by
  subst h
  exact ⟨fun b u e => by rw [upd_ne (ne_of_none e n)]; exact e, upd_same⟩
theorem gen_mut {H H' : Hp} {m : Addr} {o : HO} (h : upd H m o = H') : SameX m H H' ∧ H' m = some o := by
  subst h
  exact ⟨fun b u e n => by rw [upd_ne n]; exact e, upd_same⟩
theorem same_mut {H0 H H' : Hp} {m : Addr} (B : Same H0 H) (x : SameX m H H') (f : H0 m = none) : Same H0 H' :=
  fun b o e => x b o (B b o e) (ne_of_none e f)
theorem map_get {xs : List Int} {i : Nat} {x : V} (h : (xs.map V.int)[i]? = some x) : ∃ o, xs[i]? = some o ∧ x = .int o := by
  rw [List.getElem?_map] at h
  cases e : xs[i]? with
  | none => rw [e] at h; cases h
  | some z => rw [e] at h; exact ⟨z, rfl, (Option.some.inj h).symm⟩
theorem get_len {α : Type} {xs : List α} {i : Nat} {x : α} (h : xs[i]? = some x) : i < xs.length := (List.getElem?_eq_some_iff.mp h).1
theorem eq_int {Q : VK} {H : Hp} {a b : Int} (h : Q (.int a) H) (e : a = b) : Q (.int b) H := e ▸ h
theorem eq_bl {Q : VK} {H : Hp} {a b : Bool} (h : Q (.bl a) H) (e : a = b) : Q (.bl b) H := e ▸ h
theorem small {n : Nat} (h : n ≤ 1000000) : n < sizeLine := Nat.lt_of_le_of_lt h (by decide)
theorem smallE {n : Nat} (h : n ≤ 1000000) : n ≤ sizeLine := Nat.le_of_lt (small h)
theorem snoc_int {xs : List Int} {y : Int} {H : Hp} {p : Addr} (h : H p = some (.lst (xs.map V.int ++ [V.int y]))) : H p = some (.lst ((xs ++ [y]).map V.int)) := by
  rw [List.map_append]; exact h
theorem cat_int {xs ys : List Int} {H : Hp} {p : Addr} (h : H p = some (.lst (xs.map V.int ++ ys.map V.int))) : H p = some (.lst ((xs ++ ys).map V.int)) := by
  rw [List.map_append]; exact h
theorem cast_lst {xs ys : List Int} {H : Hp} {p : Addr} (h : H p = some (.lst (xs.map V.int))) (e : xs = ys) : H p = some (.lst (ys.map V.int)) := e ▸ h

/-! ### tests -/
theorem dT {p : Prop} [Decidable p] (h : decide p = true) : p := of_decide_eq_true h
theorem dF {p : Prop} [Decidable p] (h : ¬ decide p = true) : ¬ p := fun x => h (decide_eq_true x)
theorem iteD {p A B : Prop} [Decidable p] (h1 : p → A) (h2 : ¬ p → B) : if decide p = true then A else B := by
  by_cases h : p
  · rw [if_pos (decide_eq_true h)]; exact h1 h
  · rw [if_neg (fun x => h (of_decide_eq_true x))]; exact h2 h
theorem iteN {p A B : Prop} [Decidable p] (h1 : ¬ p → A) (h2 : p → B) : if (!decide p) = true then A else B := by
  by_cases h : p
  · rw [decide_eq_true h]; exact iteF (h2 h)
  · rw [decide_eq_false h]; exact iteT (h1 h)
theorem iteB {b : Bool} {A B : Prop} (h1 : b = true → A) (h2 : b = false → B) : if b = true then A else B := by
  cases b with
  | true => exact iteT (h1 rfl)
  | false => exact iteF (h2 rfl)
theorem iteBN {b : Bool} {A B : Prop} (h1 : b = false → A) (h2 : b = true → B) : if (!b) = true then A else B := by
  cases b with
  | true => exact iteF (h2 rfl)
  | false => exact iteT (h1 rfl)
theorem iteDT {p A B : Prop} [Decidable p] (h : p) (k : A) : if decide p = true then A else B := by
  rw [if_pos (decide_eq_true h)]; exact k
theorem iteDF {p A B : Prop} [Decidable p] (h : ¬ p) (k : B) : if decide p = true then A else B := by
  rw [if_neg (fun x => h (of_decide_eq_true x))]; exact k
theorem iteNT {p A B : Prop} [Decidable p] (h : ¬ p) (k : A) : if (!decide p) = true then A else B := iteN (fun _ => k) (fun x => (h x).elim)
theorem iteNF {p A B : Prop} [Decidable p] (h : p) (k : B) : if (!decide p) = true then A else B := iteN (fun x => (x h).elim) (fun _ => k)

/-! ### equality of lists of ints -/
theorem eqvAll_ints : ∀ xs ys : List Int, PyData.eqvAll (xs.map PyData.int) (ys.map PyData.int) = decide (xs = ys)
  | [], [] => by simp [PyData.eqvAll]
  | [], y :: ys => by simp [PyData.eqvAll]
  | x :: xs, [] => by simp [PyData.eqvAll]
  | x :: xs, y :: ys => by
    have ih := eqvAll_ints xs ys
    simp only [List.map_cons, PyData.eqvAll, PyData.eqv, ih]
    by_cases h : x = y <;> by_cases h2 : xs = ys <;> simp [h, h2]
end Vx

namespace Vx
open PySem PySem.Spec PyProof.Rows L2
section
variable {X : Cx}
def rEqLi (K : PySem.W.Frag) : R2 := fun x y H Q => ∃ (a b : Addr) (xs ys : List Int), x = .ref a ∧ y = .ref b ∧ SqL K H a (xs.map V.int) ∧ SqL K H b (ys.map V.int) ∧ Q (.bl (decide (xs = ys))) H
def rNeLi (K : PySem.W.Frag) : R2 := fun x y H Q => ∃ (a b : Addr) (xs ys : List Int), x = .ref a ∧ y = .ref b ∧ SqL K H a (xs.map V.int) ∧ SqL K H b (ys.map V.int) ∧ Q (.bl (!decide (xs = ys))) H
theorem dpAll_ints {K : PySem.W.Frag} {H : Hp} : ∀ xs : List Int, DpAll K H (xs.map V.int) (xs.map PyData.int)
  | [] => .nil
  | x :: xs => .cons (.int x) (dpAll_ints xs)
theorem dp_ints {K : PySem.W.Frag} {H : Hp} {a : Addr} {xs : List Int} (h : SqL K H a (xs.map V.int)) : Dp K H (.ref a) (.list (xs.map PyData.int)) := .lst h (dpAll_ints xs)
theorem canLay_ints : ∀ xs : List Int, PyData.canLayAll0 (xs.map PyData.int) = true
  | [] => by simp [PyData.canLayAll0]
  | x :: xs => by simp [PyData.canLayAll0, PyData.canLay0, canLay_ints xs]
theorem depth_ints : ∀ xs : List Int, PyData.depthAll (xs.map PyData.int) = 0
  | [] => by simp [PyData.depthAll]
  | x :: xs => by simp [PyData.depthAll, PyData.depth, depth_ints xs]
theorem shaped_ints (xs : List Int) : SeqAt.shaped (.list (xs.map PyData.int)) = true := by
  unfold SeqAt.shaped
  simp [PyData.canLay0, canLay_ints, PyData.depth, depth_ints]
theorem eqv_ints (xs ys : List Int) : PyData.eqv (.list (xs.map PyData.int)) (.list (ys.map PyData.int)) = decide (xs = ys) := by
  simp only [PyData.eqv]
  exact eqvAll_ints xs ys
theorem op_eqLi (hu : X.A.units + 64 < cLine) : OpR X (compareOp .Eq) (rEqLi X.K) := by
  intro pins s σ H x y v u Q I rx ry h
  obtain ⟨a, b, xs, ys, rfl, rfl, h1, h2, q⟩ := h
  exact op_eqD hu pins s σ H _ _ v u Q I rx ry ⟨_, _, dp_ints h1, dp_ints h2, shaped_ints xs, shaped_ints ys, by rw [eqv_ints]; exact q⟩
theorem op_neLi (hu : X.A.units + 64 < cLine) : OpR X (compareOp .NotEq) (rNeLi X.K) := by
  intro pins s σ H x y v u Q I rx ry h
  obtain ⟨a, b, xs, ys, rfl, rfl, h1, h2, q⟩ := h
  exact op_neD hu pins s σ H _ _ v u Q I rx ry ⟨_, _, dp_ints h1, dp_ints h2, shaped_ints xs, shaped_ints ys, by rw [eqv_ints]; exact q⟩

/-! ### items, slices, repetition, comprehensions of ints -/
def itI (xs : List Int) (i : Int) : Int := (atI xs i).getD 0
theorem atI_int {xs : List Int} {i : Int} (h : -(xs.length : Int) ≤ i ∧ i < xs.length) : atI (xs.map V.int) i = some (.int (itI xs i)) := by
  unfold itI atI
  rw [List.length_map]
  have hk : ∃ j, ixN xs.length i = some j ∧ j < xs.length := by
    unfold ixN
    by_cases h0 : 0 ≤ i
    · refine ⟨i.toNat, ?_, by omega⟩
      rw [if_pos h0, if_pos h.2]
    · refine ⟨(i + xs.length).toNat, ?_, by omega⟩
      rw [if_neg h0, if_pos h.1]
  obtain ⟨j, e, hj⟩ := hk
  rw [e]
  show (xs.map V.int)[j]? = some (V.int ((xs[j]?).getD 0))
  rw [List.getElem?_map, List.getElem?_eq_getElem hj] <;> rfl
def cutI (xs : List Int) (lo hi : Option Int) : List Int := (xs.drop (HT.sIx xs.length 0 lo)).take (HT.sIx xs.length xs.length hi - HT.sIx xs.length 0 lo)
theorem cut_int {xs : List Int} {lo hi : Option Int} {H : Hp} {p : Addr} (h : H p = some (.lst (cutV (xs.map V.int) lo hi))) : H p = some (.lst ((cutI xs lo hi).map V.int)) := by
  rw [h]
  unfold cutV cutI
  rw [List.length_map, List.map_take, List.map_drop]
def rep (xs : List Int) (k : Int) : List Int := (List.replicate k.toNat xs).flatten
theorem rep_int {xs : List Int} {k : Int} {H : Hp} {p : Addr} (h : H p = some (.lst (List.replicate k.toNat (xs.map V.int)).flatten)) : H p = some (.lst ((rep xs k).map V.int)) := by
  rw [h]
  unfold rep
  rw [List.map_flatten, List.map_replicate]
theorem divW_lit {i j : Int} (h : 0 < j) (h2 : j.natAbs.log2 < 9000) : CDivW i j := ⟨h, h2⟩
theorem divW_small {i j : Int} (h : 0 < j) (h2 : j < 2 ^ 128) : CDivW i j := wide_div h (show j.natAbs < 2 ^ 128 by omega) (by decide) (by decide)
theorem comp_list {xs : List Int} {i : Nat} {x y : Int} {f : Int → Int} {H : Hp} {D : Addr} (hi : xs[i]? = some x) (h : H D = some (.lst (((xs.take i).map f).map V.int ++ [V.int y]))) (e : f x = y) : H D = some (.lst (((xs.take (i + 1)).map f).map V.int)) := by
  rw [h, ← e, List.take_succ, hi, List.map_append, List.map_append] <;> rfl
theorem comp_done {xs : List Int} {f : Int → Int} {H : Hp} {D : Addr} (h : H D = some (.lst (((xs.take (xs.map V.int).length).map f).map V.int))) : H D = some (.lst ((xs.map f).map V.int)) := by
  rw [List.length_map, List.take_length] at h
  exact h
theorem comp_range {i : Nat} {y : Int} {f : Nat → Int} {H : Hp} {D : Addr} (h : H D = some (.lst (((List.range i).map f).map V.int ++ [V.int y]))) (e : f i = y) : H D = some (.lst (((List.range (i + 1)).map f).map V.int)) := by
  rw [h, ← e, List.range_succ, List.map_append, List.map_append] <;> rfl
theorem iteBT {b : Bool} {A B : Prop} (h : b = true) (k : A) : if b = true then A else B := by rw [if_pos h]; exact k
theorem iteBF {b : Bool} {A B : Prop} (h : b = false) (k : B) : if b = true then A else B := by rw [if_neg (by rw [h]; decide)]; exact k
theorem take_succ_get {α : Type} {xs : List α} {i : Nat} {x : α} (hi : xs[i]? = some x) : xs.take (i + 1) = xs.take i ++ [x] := by rw [List.take_succ, hi] <;> rfl
end

/-! ### defs of the module, as callers see them -/
section
variable {P : Program} {w : World} {K : PySem.W.Frag} {mg : Str → Option Value} {base : Heap}
structure DefIn (K : PySem.W.Frag) (mg : Str → Option Value) (x : Str) (st : Stmt) (ps : List Str) : Prop where
  ex : ∃ (f : Addr) (fd : FuncData), Fun K x x st f fd ∧ mg x = some (.ref f) ∧ Binds K fd ps []
structure Cal (P : Program) (w : World) (K : PySem.W.Frag) (mg : Str → Option Value) (base : Heap) (k : Nat) (x : Str) (sp : Sp) : Prop where
  ex : ∃ (f : Addr) (fd : FuncData) (ps : List Str), FnOk P w K mg base CX0 k f fd ps sp ∧ mg x = some (.ref f) ∧ PySem.W.keepIn K (.ref f) = true ∧ Binds K fd ps []
theorem DefIn.ok {x : Str} {st : Stmt} {N ps : List Str} {k : Nat} {sp : Sp} (D : DefIn K mg x st ps) (S : FnScope N ps (defScope st)) (len : ∀ vs H Q E, sp vs H Q E → vs.length = ps.length)
    (hbody : ∀ (f : Addr) (cdv : Value) (A : Around) (outer : List Env) (s : Shared) (H : Hp) (vs : List V) (Q : VK) (E : XK), Room k (A.deeper (envOfC x (defScope st) s.heap.objs.size f cdv)) → sp vs H Q E →
      ∃ t, PSs (cxOf CX0 P w K mg base N x (defScope st) f cdv A outer s H E).nox (defBody st) t ∧ t { nx := fun _ H' => Q .non H', rt := Q } (start N vs) H) : Cal P w K mg base (k + 1) x sp := by
  obtain ⟨f, fd, F, hm, b⟩ := D.ex
  exact ⟨f, fd, ps, F.ok S len (fun cdv A outer s H vs Q E hr h => hbody f cdv A outer s H vs Q E hr h), hm, F.kp, b⟩
end
section
variable {X : Cx} {k j : Nat} {x : Str} {sp : Sp} {p pos : Pos} {e : Expr} {es : List Expr} {t : TA}
theorem vx_call (c : Cal X.prog X.w X.K X.mg X.base k x sp) (hr : Room j X.A) (hk : k ≤ j) (hg : Gl X x) (ha : PA X (e :: es) t)
    (hdb : (x == ("__debug__" : Str)) = false := by decide) (he : starEach (e :: es) X.env = (false, eval e X.env) :: starEach es X.env := by rfl) (hpl : (backTo pos (starEach es X.env)).any (·.1) = false := by rfl) :
    PE X (.Call (.Name x p) (e :: es) [] pos) (tCall sp [] E0 t) := by
  obtain ⟨f, fd, ps, F, hm, kp, b⟩ := c.ex
  exact pe_call F (hr.mono hk) hg hm kp b .nil pass0 ha hdb he hpl
end
end Vx

namespace Vx
open PySem PySem.Spec PyProof.Rows L2
section
variable {σ : L2.St} {H : Hp} {ta tb : TE} {x y z : V} {t : TT}
theorem vv_and {a b : Bool} (h1 : Val ta σ H (.bl a)) (h2 : Val tb σ H (.bl b)) : Val (tAndV ta tb) σ H (.bl (a && b)) := fun Q q => h1 _ ⟨a, rfl, by
  cases a with
  | true => exact iteT (h2 Q q)
  | false => exact iteF q⟩
theorem vv_or {a b : Bool} (h1 : Val ta σ H (.bl a)) (h2 : Val tb σ H (.bl b)) : Val (tOrV ta tb) σ H (.bl (a || b)) := fun Q q => h1 _ ⟨a, rfl, by
  cases a with
  | true => exact iteT q
  | false => exact iteF (h2 Q q)⟩
theorem vv_not {a : Bool} (h1 : Val ta σ H (.bl a)) : Val (tNotV ta) σ H (.bl (!a)) := fun Q q => h1 _ ⟨a, rfl, q⟩
theorem vv_un {r : V → Hp → VK → Prop} (ha : Val ta σ H x) (hr : ∀ Q : VK, Q z H → r x H Q) : Val (tUn r ta) σ H z := fun Q q => ha _ (hr Q q)
theorem vv_cmp {p : Int → Int → Bool} (ha : Val ta σ H x) (hb : Val tb σ H y) (hr : ∀ Q : VK, Q z H → ∃ i j, x = .int i ∧ y = .int j ∧ Q (.bl (p i j)) H) : Val (tCmp p ta tb) σ H z := fun Q q => ha _ (hb _ (hr Q q))
theorem vv_call1 {r : List V → Hp → VK → Prop} (ha : Val ta σ H x) (hr : ∀ Q : VK, Q z H → r [x] H Q) : Val (tCB r (tCons ta tNil)) σ H z := fun Q q => ha _ (hr Q q)
theorem vt_cmp {b : Bool} (h : Val ta σ H (.bl b)) : Ans (tB ta) σ H b := fun Q q => h _ ⟨b, rfl, q⟩
theorem vt_val {b : Bool} (h : Val ta σ H (.bl b)) : Ans (tB ta) σ H b := fun Q q => h _ ⟨b, rfl, q⟩
theorem vt_int {i : Int} {K : PySem.W.Frag} (h : Val ta σ H (.int i)) : Ans (fun σ H Q => ta σ H fun x H' => ∃ k, TruV K x H' k ∧ Q k H') σ H (i != 0) := fun Q q => h _ ⟨_, rfl, q⟩
theorem vv_if {p : Prop} [Decidable p] {a b : Int} (ht : Ans t σ H (decide p)) (hx : Val ta σ H (.int a)) (hy : Val tb σ H (.int b)) : Val (tIf t ta tb) σ H (.int (if p then a else b)) := fun Q q => ht _ (by
  by_cases h : p
  · rw [if_pos h] at q; exact iteDT h (hx Q q)
  · rw [if_neg h] at q; exact iteDF h (hy Q q))
theorem vv_ifb {c : Bool} {a b : Int} (ht : Ans t σ H c) (hx : Val ta σ H (.int a)) (hy : Val tb σ H (.int b)) : Val (tIf t ta tb) σ H (.int (if c = true then a else b)) := fun Q q => ht _ (by
  cases c with
  | true => exact iteT (hx Q q)
  | false => exact iteF (hy Q q))
end
end Vx

namespace Vx
open PySem PySem.Spec PyProof.Rows L2
def rLenLi (K : PySem.W.Frag) : List V → Hp → VK → Prop := fun xs H Q => ∃ (p : Addr) (ns : List Int), xs = [.ref p] ∧ SqL K H p (ns.map V.int) ∧ Q (.int (ns.length : Int)) H
theorem call_lenLi {X : Cx} : CallR X (.builtin "len") (rLenLi X.K) := by
  intro pins s σ H xs us Q I r h
  obtain ⟨p, ns, rfl, hs, q⟩ := h
  exact call_len_seq pins s σ H _ us Q I r ⟨p, _, rfl, Or.inl hs, by rw [List.length_map]; exact q⟩
end Vx

namespace Vx
open PySem PySem.Spec PyProof.Rows L2
section
variable {X : Cx} {K : PySem.W.Frag}
theorem ix_listK (hK : X.K = K := by rfl) : IxR X (rIxL K) := hK ▸ ix_list
theorem sl_listK (hK : X.K = K := by rfl) : SlR X (rSlL K) := hK ▸ sl_list
theorem call_lenLiK (hK : X.K = K := by rfl) : CallR X (.builtin "len") (rLenLi K) := hK ▸ call_lenLi
theorem op_eqLiK (hu : X.A.units + 64 < cLine) (hK : X.K = K := by rfl) : OpR X (compareOp .Eq) (rEqLi K) := hK ▸ op_eqLi hu
theorem op_neLiK (hu : X.A.units + 64 < cLine) (hK : X.K = K := by rfl) : OpR X (compareOp .NotEq) (rNeLi K) := hK ▸ op_neLi hu
theorem pi_listK {tg l : Expr} {tl : TE} (hl : PE X l tl) (hK : X.K = K := by rfl) : PI X tg l (iList K tl) := hK ▸ pi_list hl
theorem cr_sumK (hc : X.calm = true) (hK : X.K = K := by rfl) : CallR X (.builtin "sum") (rSum K) := hK ▸ cr_sum hc
theorem cr_maxK (hc : X.calm = true) (hK : X.K = K := by rfl) : CallR X (.builtin "max") (rMax K) := hK ▸ cr_max hc
theorem cr_minK (hc : X.calm = true) (hK : X.K = K := by rfl) : CallR X (.builtin "min") (rMin K) := hK ▸ cr_min hc
end
end Vx

namespace Vx
open PySem PySem.Spec PyProof.Rows L2
theorem tyes_go {σ : L2.St} {H : Hp} {f g : Hp → Prop} (h : f H) : tYes σ H (fun b H3 => if b = true then f H3 else g H3) := by
  show if true = true then f H else g H
  exact iteT h
end Vx

/-! # second part: data of any depth, the stable heap G, the owned addresses O -/
namespace Vx
open PySem PySem.Spec PyProof.Rows L2
mutual
inductive Rp (H : Hp) : V → PyData → Prop
  | non : Rp H .non .none
  | bl (b : Bool) : Rp H (.bl b) (.bool b)
  | int (i : Int) : Rp H (.int i) (.int i)
  | str (x : Str) : Rp H (.str x) (.str x)
  | lst {a : Addr} {xs : List V} {ds : List PyData} : H a = some (.lst xs) → RpAll H xs ds → Rp H (.ref a) (.list ds)
  | tup {a : Addr} {xs : List V} {ds : List PyData} : H a = some (.tup xs) → RpAll H xs ds → Rp H (.ref a) (.tuple ds)
inductive RpAll (H : Hp) : List V → List PyData → Prop
  | nil : RpAll H [] []
  | cons {v : V} {vs : List V} {d : PyData} {ds : List PyData} : Rp H v d → RpAll H vs ds → RpAll H (v :: vs) (d :: ds)
end
mutual
theorem Rp.mono {H H' : Hp} (e : Same H H') : ∀ {v : V} {d : PyData}, Rp H v d → Rp H' v d
  | _, _, .non => .non
  | _, _, .bl b => .bl b
  | _, _, .int i => .int i
  | _, _, .str x => .str x
  | _, _, .lst h r => .lst (e _ _ h) (RpAll.mono e r)
  | _, _, .tup h r => .tup (e _ _ h) (RpAll.mono e r)
theorem RpAll.mono {H H' : Hp} (e : Same H H') : ∀ {vs : List V} {ds : List PyData}, RpAll H vs ds → RpAll H' vs ds
  | _, _, .nil => .nil
  | _, _, .cons a b => .cons (Rp.mono e a) (RpAll.mono e b)
end
mutual
theorem Rp.dp {K : PySem.W.Frag} {H : Hp} : ∀ {v : V} {d : PyData}, Rp H v d → Dp K H v d
  | _, _, .non => .non
  | _, _, .bl b => .bl b
  | _, _, .int i => .int i
  | _, _, .str x => .str x
  | _, _, .lst h r => .lst (SqL.of h) (RpAll.dp r)
  | _, _, .tup h r => .tup (SqT.of h) (RpAll.dp r)
theorem RpAll.dp {K : PySem.W.Frag} {H : Hp} : ∀ {vs : List V} {ds : List PyData}, RpAll H vs ds → DpAll K H vs ds
  | _, _, .nil => .nil
  | _, _, .cons a b => .cons (Rp.dp a) (RpAll.dp b)
end
theorem RpAll.append {H : Hp} : ∀ {xs ys : List V} {ds es : List PyData}, RpAll H xs ds → RpAll H ys es → RpAll H (xs ++ ys) (ds ++ es)
  | _, _, _, _, .nil, s => s
  | _, _, _, _, .cons r t, s => .cons r (RpAll.append t s)
theorem RpAll.ints {H : Hp} : ∀ xs : List Int, RpAll H (xs.map V.int) (xs.map PyData.int)
  | [] => .nil
  | x :: xs => .cons (.int x) (RpAll.ints xs)
theorem RpAll.bls {H : Hp} : ∀ xs : List Bool, RpAll H (xs.map V.bl) (xs.map PyData.bool)
  | [] => .nil
  | x :: xs => .cons (.bl x) (RpAll.bls xs)
theorem RpAll.one {H : Hp} {v : V} {d : PyData} (h : Rp H v d) : RpAll H [v] [d] := .cons h .nil
theorem RpAll.len {H : Hp} : ∀ {vs : List V} {ds : List PyData}, RpAll H vs ds → vs.length = ds.length
  | _, _, .nil => rfl
  | _, _, .cons _ t => by rw [List.length_cons, List.length_cons, RpAll.len t]
theorem RpAll.at {H : Hp} : ∀ {vs : List V} {ds : List PyData} {i : Nat} {v : V}, RpAll H vs ds → vs[i]? = some v → ∃ d, ds[i]? = some d ∧ Rp H v d
  | _, _, _, _, .nil, h => by simp at h
  | _, _, 0, _, .cons r _, h => by
    simp at h
    subst h
    exact ⟨_, rfl, r⟩
  | _, _, i + 1, _, .cons _ t, h => by
    obtain ⟨d, h1, h2⟩ := RpAll.at (i := i) t (by simpa using h)
    exact ⟨d, by simpa using h1, h2⟩
theorem RpAll.at' {H : Hp} : ∀ {vs : List V} {ds : List PyData} {i : Nat} {d : PyData}, RpAll H vs ds → ds[i]? = some d → ∃ v, vs[i]? = some v ∧ Rp H v d
  | _, _, _, _, .nil, h => by simp at h
  | _, _, 0, _, .cons r _, h => by
    simp at h
    subst h
    exact ⟨_, rfl, r⟩
  | _, _, i + 1, _, .cons _ t, h => by
    obtain ⟨v, h1, h2⟩ := RpAll.at' (i := i) t (by simpa using h)
    exact ⟨v, by simpa using h1, h2⟩
theorem RpAll.take {H : Hp} : ∀ (n : Nat) {vs : List V} {ds : List PyData}, RpAll H vs ds → RpAll H (vs.take n) (ds.take n)
  | 0, _, _, _ => by simpa using RpAll.nil
  | n + 1, _, _, .nil => by simpa using RpAll.nil
  | n + 1, _, _, .cons r t => .cons r (RpAll.take n t)
theorem RpAll.drop {H : Hp} : ∀ (n : Nat) {vs : List V} {ds : List PyData}, RpAll H vs ds → RpAll H (vs.drop n) (ds.drop n)
  | 0, _, _, r => r
  | n + 1, _, _, .nil => by simpa using RpAll.nil
  | n + 1, _, _, .cons r t => RpAll.drop n t
theorem RpAll.set {H : Hp} {v : V} {d : PyData} (h : Rp H v d) : ∀ (n : Nat) {vs : List V} {ds : List PyData}, RpAll H vs ds → RpAll H (vs.set n v) (ds.set n d)
  | _, _, _, .nil => .nil
  | 0, _, _, .cons _ t => .cons h t
  | n + 1, _, _, .cons r t => .cons r (RpAll.set h n t)
theorem RpAll.rep {H : Hp} {vs : List V} {ds : List PyData} (h : RpAll H vs ds) : ∀ n : Nat, RpAll H (List.replicate n vs).flatten (List.replicate n ds).flatten
  | 0 => by simpa using RpAll.nil
  | n + 1 => by
    rw [List.replicate_succ, List.flatten_cons, List.replicate_succ, List.flatten_cons]
    exact RpAll.append h (RpAll.rep h n)
theorem RpAll.get {α : Type} {f : α → PyData} {H : Hp} {vs : List V} {xs : List α} {i : Nat} {v : V} (r : RpAll H vs (xs.map f)) (h : vs[i]? = some v) : ∃ x, xs[i]? = some x ∧ Rp H v (f x) := by
  obtain ⟨d, h1, h2⟩ := RpAll.at r h
  rw [List.getElem?_map] at h1
  cases e : xs[i]? with
  | none => rw [e] at h1; cases h1
  | some x =>
    rw [e] at h1
    have : f x = d := Option.some.inj h1
    exact ⟨x, rfl, this ▸ h2⟩
/-- the item at an index, data -/
theorem RpAll.ix {α : Type} {f : α → PyData} {H : Hp} {vs : List V} {xs : List α} {k : Int} (r : RpAll H vs (xs.map f)) (h : -(xs.length : Int) ≤ k ∧ k < xs.length) : ∃ v x, atI vs k = some v ∧ atI xs k = some x ∧ Rp H v (f x) := by
  have hl : vs.length = xs.length := by rw [r.len, List.length_map]
  have hk : ∃ j, ixN xs.length k = some j ∧ j < xs.length := by
    unfold ixN
    by_cases h0 : 0 ≤ k
    · refine ⟨k.toNat, ?_, by omega⟩
      rw [if_pos h0, if_pos h.2]
    · refine ⟨(k + xs.length).toNat, ?_, by omega⟩
      rw [if_neg h0, if_pos h.1]
  obtain ⟨j, e, hj⟩ := hk
  have hx := List.getElem?_eq_getElem hj
  obtain ⟨v, h1, h2⟩ := RpAll.at' (i := j) (d := f xs[j]) r (by rw [List.getElem?_map, hx] <;> rfl)
  refine ⟨v, xs[j], ?_, ?_, h2⟩
  · unfold atI
    rw [hl, e]
    exact h1
  · unfold atI
    rw [e]
    exact hx

/-! ### types -/
def encL {α : Type} (f : α → PyData) (xs : List α) : PyData := .list (xs.map f)
def encT2 {α β : Type} (f : α → PyData) (g : β → PyData) (p : α × β) : PyData := .tuple [f p.1, g p.2]
def encT3 {α β γ : Type} (f : α → PyData) (g : β → PyData) (h : γ → PyData) (p : α × β × γ) : PyData := .tuple [f p.1, g p.2.1, h p.2.2]
def encT4 {α β γ δ : Type} (f : α → PyData) (g : β → PyData) (h : γ → PyData) (i : δ → PyData) (p : α × β × γ × δ) : PyData := .tuple [f p.1, g p.2.1, h p.2.2.1, i p.2.2.2]
structure EncOk {α : Type} [DecidableEq α] (n : Nat) (f : α → PyData) : Prop where
  lay : ∀ x, PyData.canLay0 (f x) = true
  dep : ∀ x, PyData.depth (f x) ≤ n
  eqv : ∀ x y, PyData.eqv (f x) (f y) = decide (x = y)
theorem encOk_int : EncOk 0 PyData.int := ⟨fun _ => by simp [PyData.canLay0], fun _ => by simp [PyData.depth], fun x y => by simp [PyData.eqv]; by_cases h : x = y <;> simp [h]⟩
theorem encOk_bool : EncOk 0 PyData.bool := ⟨fun _ => by simp [PyData.canLay0], fun _ => by simp [PyData.depth], fun x y => by cases x <;> cases y <;> simp [PyData.eqv]⟩
section
variable {α β γ δ : Type} [DecidableEq α] [DecidableEq β] [DecidableEq γ] [DecidableEq δ] {n m l o : Nat} {f : α → PyData} {g : β → PyData} {h : γ → PyData} {i : δ → PyData}
theorem lay_map (ok : EncOk n f) : ∀ xs : List α, PyData.canLayAll0 (xs.map f) = true
  | [] => by simp [PyData.canLayAll0]
  | x :: xs => by simp [PyData.canLayAll0, ok.lay x, lay_map ok xs]
theorem dep_map (ok : EncOk n f) : ∀ xs : List α, PyData.depthAll (xs.map f) ≤ n
  | [] => by simp [PyData.depthAll]
  | x :: xs => by
    have h1 := ok.dep x
    have h2 := dep_map ok xs
    simp only [List.map_cons, PyData.depthAll]
    omega
theorem eqv_map (ok : EncOk n f) : ∀ xs ys : List α, PyData.eqvAll (xs.map f) (ys.map f) = decide (xs = ys)
  | [], [] => by simp [PyData.eqvAll]
  | [], y :: ys => by simp [PyData.eqvAll]
  | x :: xs, [] => by simp [PyData.eqvAll]
  | x :: xs, y :: ys => by
    have ih := eqv_map ok xs ys
    simp only [List.map_cons, PyData.eqvAll, ok.eqv, ih]
    by_cases h : x = y <;> by_cases h2 : xs = ys <;> simp [h, h2]
theorem encOk_L (ok : EncOk n f) : EncOk (n + 1) (encL f) := ⟨fun xs => by simp [encL, PyData.canLay0, lay_map ok], fun xs => by
  have := dep_map ok xs
  simp only [encL, PyData.depth]
  omega, fun xs ys => by simp only [encL, PyData.eqv]; exact eqv_map ok xs ys⟩
theorem encOk_T2 (ok : EncOk n f) (ok2 : EncOk m g) : EncOk (max n m + 1) (encT2 f g) := ⟨fun x => by simp [encT2, PyData.canLay0, PyData.canLayAll0, ok.lay, ok2.lay], fun x => by
  have h1 := ok.dep x.1
  have h2 := ok2.dep x.2
  simp only [encT2, PyData.depth, PyData.depthAll]
  omega, fun x y => by
  obtain ⟨a, b⟩ := x
  obtain ⟨c, d⟩ := y
  simp only [encT2, PyData.eqv, PyData.eqvAll, ok.eqv, ok2.eqv, Prod.mk.injEq]
  by_cases h1 : a = c <;> by_cases h2 : b = d <;> simp [h1, h2]⟩
theorem encOk_T3 (ok : EncOk n f) (ok2 : EncOk m g) (ok3 : EncOk l h) : EncOk (max n (max m l) + 1) (encT3 f g h) := ⟨fun x => by simp [encT3, PyData.canLay0, PyData.canLayAll0, ok.lay, ok2.lay, ok3.lay], fun x => by
  have h1 := ok.dep x.1
  have h2 := ok2.dep x.2.1
  have h3 := ok3.dep x.2.2
  simp only [encT3, PyData.depth, PyData.depthAll]
  omega, fun x y => by
  obtain ⟨a, b, e⟩ := x
  obtain ⟨c, d, e'⟩ := y
  simp only [encT3, PyData.eqv, PyData.eqvAll, ok.eqv, ok2.eqv, ok3.eqv, Prod.mk.injEq]
  by_cases h1 : a = c <;> by_cases h2 : b = d <;> by_cases h3 : e = e' <;> simp [h1, h2, h3]⟩
theorem encOk_T4 (ok : EncOk n f) (ok2 : EncOk m g) (ok3 : EncOk l h) (ok4 : EncOk o i) : EncOk (max n (max m (max l o)) + 1) (encT4 f g h i) := ⟨fun x => by simp [encT4, PyData.canLay0, PyData.canLayAll0, ok.lay, ok2.lay, ok3.lay, ok4.lay], fun x => by
  have h1 := ok.dep x.1
  have h2 := ok2.dep x.2.1
  have h3 := ok3.dep x.2.2.1
  have h4 := ok4.dep x.2.2.2
  simp only [encT4, PyData.depth, PyData.depthAll]
  omega, fun x y => by
  obtain ⟨a, b, e, u⟩ := x
  obtain ⟨c, d, e', u'⟩ := y
  simp only [encT4, PyData.eqv, PyData.eqvAll, ok.eqv, ok2.eqv, ok3.eqv, ok4.eqv, Prod.mk.injEq]
  by_cases h1 : a = c <;> by_cases h2 : b = d <;> by_cases h3 : e = e' <;> by_cases h4 : u = u' <;> simp [h1, h2, h3, h4]⟩
end
section
variable {X : Cx} {α : Type} [DecidableEq α] {n : Nat} {f : α → PyData}
def rEqT (f : α → PyData) : R2 := fun x y H Q => ∃ (a b : α), Rp H x (f a) ∧ Rp H y (f b) ∧ Q (.bl (decide (a = b))) H
def rNeT (f : α → PyData) : R2 := fun x y H Q => ∃ (a b : α), Rp H x (f a) ∧ Rp H y (f b) ∧ Q (.bl (!decide (a = b))) H
theorem shaped_of (ok : EncOk n f) (hn : n ≤ 64) (a : α) : SeqAt.shaped (f a) = true := by
  unfold SeqAt.shaped
  have h := ok.dep a
  rw [ok.lay]
  simp
  omega
theorem op_eqT (ok : EncOk n f) (hu : X.A.units + 64 < cLine) (hn : n ≤ 64 := by decide) : OpR X (compareOp .Eq) (rEqT f) := by
  intro pins s σ H x y v u Q I rx ry h
  obtain ⟨a, b, h1, h2, q⟩ := h
  exact op_eqD hu pins s σ H _ _ v u Q I rx ry ⟨_, _, h1.dp, h2.dp, shaped_of ok hn a, shaped_of ok hn b, by rw [ok.eqv]; exact q⟩
theorem op_neT (ok : EncOk n f) (hu : X.A.units + 64 < cLine) (hn : n ≤ 64 := by decide) : OpR X (compareOp .NotEq) (rNeT f) := by
  intro pins s σ H x y v u Q I rx ry h
  obtain ⟨a, b, h1, h2, q⟩ := h
  exact op_neD hu pins s σ H _ _ v u Q I rx ry ⟨_, _, h1.dp, h2.dp, shaped_of ok hn a, shaped_of ok hn b, by rw [ok.eqv]; exact q⟩
end
section
variable {H : Hp} {v : V} {α β γ δ : Type} {f : α → PyData} {g : β → PyData} {h : γ → PyData} {i : δ → PyData}
theorem rp_int {x : Int} (r : Rp H v (.int x)) : v = .int x := by cases r; rfl
theorem rp_bool {x : Bool} (r : Rp H v (.bool x)) : v = .bl x := by cases r; rfl
theorem rp_str {x : Str} (r : Rp H v (.str x)) : v = .str x := by cases r; rfl
theorem rp_list {xs : List α} (r : Rp H v (encL f xs)) : ∃ a vs, v = .ref a ∧ H a = some (.lst vs) ∧ RpAll H vs (xs.map f) := by
  unfold encL at r
  cases r with
  | lst h1 h2 => exact ⟨_, _, rfl, h1, h2⟩
theorem rpAll_ints : ∀ {vs : List V} {xs : List Int}, RpAll H vs (xs.map PyData.int) → vs = xs.map V.int
  | _, [], .nil => rfl
  | _, x :: xs, .cons r t => by rw [rp_int r, rpAll_ints t] <;> rfl
theorem rp_ints {xs : List Int} (r : Rp H v (encL PyData.int xs)) : ∃ a, v = .ref a ∧ H a = some (.lst (xs.map V.int)) := by
  obtain ⟨a, vs, e, h1, h2⟩ := rp_list r
  rw [rpAll_ints h2] at h1
  exact ⟨a, e, h1⟩
theorem rp_tup2 {x : α × β} (r : Rp H v (encT2 f g x)) : ∃ a v1 v2, v = .ref a ∧ H a = some (.tup [v1, v2]) ∧ Rp H v1 (f x.1) ∧ Rp H v2 (g x.2) := by
  unfold encT2 at r
  cases r with
  | tup h1 h2 =>
    cases h2 with
    | cons a b =>
      cases b with
      | cons b c =>
        cases c
        exact ⟨_, _, _, rfl, h1, a, b⟩
theorem rp_tup3 {x : α × β × γ} (r : Rp H v (encT3 f g h x)) : ∃ a v1 v2 v3, v = .ref a ∧ H a = some (.tup [v1, v2, v3]) ∧ Rp H v1 (f x.1) ∧ Rp H v2 (g x.2.1) ∧ Rp H v3 (h x.2.2) := by
  unfold encT3 at r
  cases r with
  | tup h1 h2 =>
    cases h2 with
    | cons a b =>
      cases b with
      | cons b c =>
        cases c with
        | cons c d =>
          cases d
          exact ⟨_, _, _, _, rfl, h1, a, b, c⟩
theorem rp_mk_list {a : Addr} {vs : List V} {xs : List α} (h1 : H a = some (.lst vs)) (h2 : RpAll H vs (xs.map f)) : Rp H (.ref a) (encL f xs) := .lst h1 h2
theorem rp_mk_ints {a : Addr} {xs : List Int} (h1 : H a = some (.lst (xs.map V.int))) : Rp H (.ref a) (encL PyData.int xs) := .lst h1 (RpAll.ints xs)
theorem rp_mk2 {a : Addr} {v1 v2 : V} {x : α} {y : β} (h1 : H a = some (.tup [v1, v2])) (r1 : Rp H v1 (f x)) (r2 : Rp H v2 (g y)) : Rp H (.ref a) (encT2 f g (x, y)) := .tup h1 (.cons r1 (.cons r2 .nil))
theorem rp_mk3 {a : Addr} {v1 v2 v3 : V} {x : α} {y : β} {z : γ} (h1 : H a = some (.tup [v1, v2, v3])) (r1 : Rp H v1 (f x)) (r2 : Rp H v2 (g y)) (r3 : Rp H v3 (h z)) : Rp H (.ref a) (encT3 f g h (x, y, z)) := .tup h1 (.cons r1 (.cons r2 (.cons r3 .nil)))
end

/-! ### the two heaps -/
def SameXs (L : List Addr) (H H' : Hp) : Prop := ∀ b o, H b = some o → b ∉ L → H' b = some o
theorem SameXs.of {H H' : Hp} {m : Addr} (x : SameX m H H') : SameXs [m] H H' := fun b o e n => x b o e (fun z => n (by rw [z]; exact List.mem_cons_self))
theorem ni1 {b m : Addr} (h : b ≠ m) : b ∉ [m] := by simpa using h
theorem ni2 {b m n : Addr} (h : b ≠ m) (h2 : b ≠ n) : b ∉ [m, n] := by simp [h, h2]
theorem ni3 {b m n o : Addr} (h : b ≠ m) (h2 : b ≠ n) (h3 : b ≠ o) : b ∉ [m, n, o] := by simp [h, h2, h3]
theorem ni4 {b m n o p : Addr} (h : b ≠ m) (h2 : b ≠ n) (h3 : b ≠ o) (h4 : b ≠ p) : b ∉ [m, n, o, p] := by simp [h, h2, h3, h4]
def hideL (L : List Addr) (H : Hp) : Hp := fun b => if b ∈ L then none else H b
theorem hideL_same (L : List Addr) (H : Hp) : Same (hideL L H) H := fun b o e => by
  unfold hideL at e
  split at e
  · cases e
  · exact e
theorem hideL_in {L : List Addr} {H : Hp} {b : Addr} (h : b ∈ L) : hideL L H b = none := if_pos h
theorem hideL_out {L : List Addr} {H : Hp} {b : Addr} (h : b ∉ L) : hideL L H b = H b := if_neg h
/-- M: owned from outside; H0, G0: at the entry; G: what stays as it is; O: what may change -/
structure Sep (M : List Addr) (H0 G0 G H : Hp) (O : List Addr) : Prop where
  base : SameXs M H0 H
  pm : ∀ a ∈ M, H a ≠ none
  sG : Same G H
  g0 : Same G0 G
  gn : ∀ b, H0 b ≠ none → G0 b = none → G b = none
  ow : ∀ a ∈ O, G a = none ∧ H a ≠ none ∧ (a ∈ M ∨ H0 a = none)
theorem all_nil {P : Addr → Prop} : ∀ x ∈ ([] : List Addr), P x := fun x h => by cases h
theorem all_cons {P : Addr → Prop} {a : Addr} {l : List Addr} (h : P a) (t : ∀ x ∈ l, P x) : ∀ x ∈ a :: l, P x := fun x hx => by
  cases hx with
  | head => exact h
  | tail _ hx => exact t x hx
theorem some_ne {H : Hp} {a : Addr} {o : HO} (h : H a = some o) : H a ≠ none := by
  rw [h]
  exact fun z => nomatch z
theorem same_ne {H H' : Hp} {a : Addr} (e : Same H H') (h : H a ≠ none) : H' a ≠ none := by
  cases q : H a with
  | none => exact absurd q h
  | some o => exact some_ne (e a o q)
section
variable {M : List Addr} {H0 G0 G H H' : Hp} {O : List Addr} {p m : Addr} {o : HO}
theorem Sep.start (M : List Addr) (H : Hp) (hM : ∀ a ∈ M, H a ≠ none) : Sep M H (hideL M H) (hideL M H) H M :=
  ⟨fun _ _ e _ => e, hM, hideL_same M H, Same.refl _, fun _ _ e => e, fun a ha => ⟨hideL_in ha, hM a ha, .inl ha⟩⟩
theorem Sep.startG {G H : Hp} (e : Same G H) : Sep [] H G G H [] := ⟨fun _ _ e _ => e, all_nil, e, Same.refl _, fun _ _ e => e, fun a ha => by cases ha⟩
theorem Sep.start0 (H : Hp) : Sep [] H H H H [] := Sep.startG (Same.refl H)
theorem Sep.b0 (S : Sep [] H0 G0 G H O) : Same H0 H := fun b o e => S.base b o e List.not_mem_nil
theorem Sep.free (S : Sep M H0 G0 G H O) {q : Addr} (n : H q = none) : H0 q = none := by
  cases e : H0 q with
  | none => rfl
  | some o =>
    by_cases h : q ∈ M
    · exact absurd n (S.pm q h)
    · rw [S.base q o e h] at n
      cases n
theorem Sep.same (S : Sep M H0 G0 G H O) (e : Same H H') : Sep M H0 G0 G H' O :=
  ⟨fun b o h n => e b o (S.base b o h n), fun a ha => same_ne e (S.pm a ha), S.sG.trans e, S.g0, S.gn, fun a ha => ⟨(S.ow a ha).1, same_ne e (S.ow a ha).2.1, (S.ow a ha).2.2⟩⟩
theorem Sep.gfree (S : Sep M H0 G0 G H O) {q : Addr} (n : H q = none) : G q = none := by
  cases e : G q with
  | none => rfl
  | some o => rw [S.sG q o e] at n; cases n
theorem Sep.new (S : Sep M H0 G0 G H O) (n : H p = none) (e : Same H H') (h : H' p = some o) (hm : H0 p = none) : Sep M H0 G0 G H' (p :: O) := by
  have S1 := S.same e
  refine ⟨S1.base, S1.pm, S1.sG, S1.g0, S1.gn, fun a ha => ?_⟩
  cases ha with
  | head => exact ⟨S.gfree n, some_ne h, .inr hm⟩
  | tail _ ha => exact S1.ow a ha
theorem Sep.grow (S : Sep M H0 G0 G H O) (n : H p = none) (e : Same H H') (h : H' p = some o) (hm : H0 p = none) : ∃ G', Same G G' ∧ G' p = some o ∧ Sep M H0 G0 G' H' O := by
  have S1 := S.same e
  have ng := S.gfree n
  refine ⟨upd G p o, fun b u q => by rw [upd_ne (ne_of_none q ng)]; exact q, upd_same, S1.base, S1.pm, fun b u q => ?_, fun b u q => ?_, fun b hb gb => ?_, fun a ha => ?_⟩
  · by_cases z : b = p
    · subst z
      rw [upd_same] at q
      exact q ▸ h
    · rw [upd_ne z] at q
      exact S1.sG b u q
  · have := S.g0 b u q
    rw [upd_ne (ne_of_none this ng)]
    exact this
  · by_cases z : b = p
    · subst z
      exact absurd hm hb
    · rw [upd_ne z]
      exact S.gn b hb gb
  · have hne : a ≠ p := fun z => (S.ow a ha).2.1 (by rw [z]; exact n)
    rw [upd_ne hne]
    exact S1.ow a ha
theorem Sep.mut (S : Sep M H0 G0 G H O) {L : List Addr} (x : SameXs L H H') (hL : ∀ a ∈ L, a ∈ O) (hs : ∀ a ∈ L, H' a ≠ none) : Sep M H0 G0 G H' O := by
  have keep : ∀ a, H a ≠ none → H' a ≠ none := fun a h => by
    by_cases hb : a ∈ L
    · exact hs a hb
    · cases q : H a with
      | none => exact absurd q h
      | some o => exact some_ne (x a o q hb)
  refine ⟨fun b o e n => ?_, fun a ha => keep a (S.pm a ha), fun b o e => ?_, S.g0, S.gn, fun a ha => ⟨(S.ow a ha).1, keep a (S.ow a ha).2.1, (S.ow a ha).2.2⟩⟩
  · refine x b o (S.base b o e n) fun hb => ?_
    rcases (S.ow b (hL b hb)).2.2 with z | z
    · exact n z
    · rw [e] at z; cases z
  · refine x b o (S.sG b o e) fun hb => ?_
    have := (S.ow b (hL b hb)).1
    rw [e] at this
    cases this
theorem Sep.mut1 (S : Sep M H0 G0 G H O) (x : SameX m H H') (hm : m ∈ O) (h : H' m = some o) : Sep M H0 G0 G H' O :=
  S.mut (SameXs.of x) (all_cons hm all_nil) (all_cons (some_ne h) all_nil)
theorem Sep.sub (S : Sep M H0 G0 G H O) {O' : List Addr} (h : ∀ a ∈ O', a ∈ O) : Sep M H0 G0 G H O' := ⟨S.base, S.pm, S.sG, S.g0, S.gn, fun a ha => S.ow a (h a ha)⟩
/-- what was owned and is to stay as it is from now on -/
theorem Sep.freeze (S : Sep M H0 G0 G H O) {O' : List Addr} (hp : p ∈ O) (h : H p = some o) (hm : H0 p = none) (hO : ∀ a ∈ O', a ∈ O ∧ a ≠ p) : ∃ G', Same G G' ∧ G' p = some o ∧ Sep M H0 G0 G' H O' := by
  have ng := (S.ow p hp).1
  refine ⟨upd G p o, fun b u q => by rw [upd_ne (ne_of_none q ng)]; exact q, upd_same, S.base, S.pm, fun b u q => ?_, fun b u q => ?_, fun b hb gb => ?_, fun a ha => ?_⟩
  · by_cases z : b = p
    · subst z
      rw [upd_same] at q
      exact q ▸ h
    · rw [upd_ne z] at q
      exact S.sG b u q
  · have := S.g0 b u q
    rw [upd_ne (ne_of_none this ng)]
    exact this
  · by_cases z : b = p
    · subst z
      exact absurd hm hb
    · rw [upd_ne z]
      exact S.gn b hb gb
  · rw [upd_ne (hO a ha).2]
    exact S.ow a (hO a ha).1
/-- a callee that hands on data in a stable heap of its own -/
theorem Sep.step (S : Sep M H0 G0 G H O) {G' : Hp} (e : Same H H') (eG : Same G G') (sG : Same G' H') (hn : ∀ b, H b ≠ none → G b = none → G' b = none) : Sep M H0 G0 G' H' O := by
  have S1 := S.same e
  refine ⟨S1.base, S1.pm, sG, S.g0.trans eG, fun b hb gb => ?_, fun a ha => ⟨hn a (S.ow a ha).2.1 (S.ow a ha).1, (S1.ow a ha).2⟩⟩
  refine hn b (fun z => ?_) (S.gn b hb gb)
  exact hb (S.free z)
theorem Sep.hid (S : Sep M H0 G0 G H O) {L : List Addr} (h : ∀ a ∈ L, a ∈ O) : Same G (hideL L H) := fun b o e => by
  rw [hideL_out fun z => by
    have := (S.ow b (h b z)).1
    rw [e] at this
    cases this]
  exact S.sG b o e
end
end Vx

namespace Vx
open PySem PySem.Spec PyProof.Rows L2
/-! ### lists of plain things (f : V.int, V.bl, V.str) -/
section
variable {α : Type} {f : α → V} {H : Hp} {p : Addr}
theorem cat_map {xs ys : List α} (h : H p = some (.lst (xs.map f ++ ys.map f))) : H p = some (.lst ((xs ++ ys).map f)) := by
  rw [List.map_append]; exact h
theorem snoc_map {xs : List α} {y : α} (h : H p = some (.lst (xs.map f ++ [f y]))) : H p = some (.lst ((xs ++ [y]).map f)) := by
  rw [List.map_append]; exact h
def repL (xs : List α) (k : Int) : List α := (List.replicate k.toNat xs).flatten
theorem rep_map {xs : List α} {k : Int} (h : H p = some (.lst (List.replicate k.toNat (xs.map f)).flatten)) : H p = some (.lst ((repL xs k).map f)) := by
  rw [h]
  unfold repL
  rw [List.map_flatten, List.map_replicate]
def cutL (xs : List α) (lo hi : Option Int) : List α := (xs.drop (HT.sIx xs.length 0 lo)).take (HT.sIx xs.length xs.length hi - HT.sIx xs.length 0 lo)
theorem cut_map {xs : List α} {lo hi : Option Int} (h : H p = some (.lst (cutV (xs.map f) lo hi))) : H p = some (.lst ((cutL xs lo hi).map f)) := by
  rw [h]
  unfold cutV cutL
  rw [List.length_map, List.map_take, List.map_drop]
theorem cast_map {xs ys : List α} (h : H p = some (.lst (xs.map f))) (e : xs = ys) : H p = some (.lst (ys.map f)) := e ▸ h
theorem drop_map {xs : List α} (h : H p = some (.lst (xs.map f).dropLast)) : H p = some (.lst (xs.dropLast.map f)) := by
  rw [h, List.map_dropLast]
theorem ixN_some {n : Nat} {k : Int} (h : -(n : Int) ≤ k ∧ k < n) : ∃ j, ixN n k = some j ∧ j < n := by
  unfold ixN
  by_cases h0 : 0 ≤ k
  · exact ⟨k.toNat, by rw [if_pos h0, if_pos h.2], by omega⟩
  · exact ⟨(k + n).toNat, by rw [if_neg h0, if_pos h.1], by omega⟩
def itD [Inhabited α] (xs : List α) (k : Int) : α := (atI xs k).getD default
theorem atI_map [Inhabited α] {xs : List α} {k : Int} (h : -(xs.length : Int) ≤ k ∧ k < xs.length) : atI (xs.map f) k = some (f (itD xs k)) := by
  obtain ⟨j, e, hj⟩ := ixN_some h
  unfold itD atI
  rw [List.length_map, e]
  show (xs.map f)[j]? = some (f ((xs[j]?).getD default))
  rw [List.getElem?_map, List.getElem?_eq_getElem hj] <;> rfl
def setL (xs : List α) (k : Int) (y : α) : List α := xs.set ((ixN xs.length k).getD 0) y
theorem ixN_map {xs : List α} {k : Int} (h : -(xs.length : Int) ≤ k ∧ k < xs.length) : ixN (xs.map f).length k = some ((ixN xs.length k).getD 0) := by
  obtain ⟨j, e, hj⟩ := ixN_some h
  rw [List.length_map, e] <;> rfl
theorem set_map {xs : List α} {k : Int} {y : α} (h : H p = some (.lst ((xs.map f).set ((ixN xs.length k).getD 0) (f y)))) : H p = some (.lst ((setL xs k y).map f)) := by
  rw [h]
  unfold setL
  rw [List.map_set]
def lastD [Inhabited α] (xs : List α) : α := xs.getLastD default
theorem pop_map [Inhabited α] {xs : List α} (h : xs ≠ []) : (xs.map f)[(xs.map f).length - 1]? = some (f (lastD xs)) := by
  rw [← List.getLast?_eq_getElem?, List.getLast?_map]
  unfold lastD
  cases e : xs.getLast? with
  | none => exact absurd (List.getLast?_eq_none_iff.mp e) h
  | some y =>
    rw [List.getLastD_eq_getLast?, e] <;> rfl
end
/-! ### lists of data -/
section
variable {α β : Type} {f : α → PyData} {g : β → PyData} {G : Hp} {vs ws : List V} {xs ys : List α}
theorem app_map (a : RpAll G vs (xs.map f)) (b : RpAll G ws (ys.map f)) : RpAll G (vs ++ ws) ((xs ++ ys).map f) := by
  rw [List.map_append]; exact a.append b
theorem one_map {v : V} {y : α} (a : RpAll G vs (xs.map f)) (b : Rp G v (f y)) : RpAll G (vs ++ [v]) ((xs ++ [y]).map f) := by
  rw [List.map_append]; exact a.append (.one b)
theorem rep_all (k : Int) (a : RpAll G vs (xs.map f)) : RpAll G (List.replicate k.toNat vs).flatten ((repL xs k).map f) := by
  unfold repL
  rw [List.map_flatten, List.map_replicate]
  exact a.rep _
theorem cut_all (lo hi : Option Int) (a : RpAll G vs (xs.map f)) : RpAll G (cutV vs lo hi) ((cutL xs lo hi).map f) := by
  unfold cutV cutL
  rw [a.len, List.length_map, List.map_take, List.map_drop]
  exact (a.drop _).take _
theorem rp_cast {v : V} {d e : PyData} (r : Rp G v d) (h : d = e) : Rp G v e := h ▸ r
theorem comp_listD {i : Nat} {x : α} {y : β} {v : V} {h : α → β} (hi : xs[i]? = some x) (a : RpAll G vs (((xs.take i).map h).map g)) (r : Rp G v (g y)) (e : h x = y) : RpAll G (vs ++ [v]) (((xs.take (i + 1)).map h).map g) := by
  rw [take_succ_get hi, List.map_append, List.map_append]
  exact a.append (.one (e ▸ r))
theorem comp_rangeD {i : Nat} {y : β} {v : V} {h : Nat → β} (a : RpAll G vs (((List.range i).map h).map g)) (r : Rp G v (g y)) (e : h i = y) : RpAll G (vs ++ [v]) (((List.range (i + 1)).map h).map g) := by
  rw [List.range_succ, List.map_append, List.map_append]
  exact a.append (.one (e ▸ r))
theorem comp_doneD {n : Nat} {h : List α → List β} (hl : n = xs.length) (a : RpAll G vs ((h (xs.take n)).map g)) : RpAll G vs ((h xs).map g) := by
  rw [hl, List.take_length] at a
  exact a
theorem comp_listFD {i : Nat} {x : α} {y : β} {v : V} {h : α → β} {q : α → Bool} (hi : xs[i]? = some x) (hq : q x = true) (a : RpAll G vs ((((xs.take i).filter q).map h).map g)) (r : Rp G v (g y)) (e : h x = y) : RpAll G (vs ++ [v]) ((((xs.take (i + 1)).filter q).map h).map g) := by
  rw [take_succ_get hi, List.filter_append, List.filter_cons, if_pos hq, List.map_append, List.map_append]
  exact a.append (.one (e ▸ r))
theorem skip_listD {i : Nat} {x : α} {h : α → β} {q : α → Bool} (hi : xs[i]? = some x) (hq : q x = false) (a : RpAll G vs ((((xs.take i).filter q).map h).map g)) : RpAll G vs ((((xs.take (i + 1)).filter q).map h).map g) := by
  rw [take_succ_get hi, List.filter_append, List.filter_cons, if_neg (by rw [hq]; decide), List.filter_nil, List.append_nil]
  exact a
end
section
variable {α β : Type} {f : β → V} {H : Hp} {D : Addr} {xs : List α}
theorem compM_list {i : Nat} {x : α} {y : β} {h : α → β} (hi : xs[i]? = some x) (a : H D = some (.lst (((xs.take i).map h).map f ++ [f y]))) (e : h x = y) : H D = some (.lst (((xs.take (i + 1)).map h).map f)) := by
  rw [a, ← e, take_succ_get hi, List.map_append, List.map_append] <;> rfl
theorem compM_range {i : Nat} {y : β} {h : Nat → β} (a : H D = some (.lst (((List.range i).map h).map f ++ [f y]))) (e : h i = y) : H D = some (.lst (((List.range (i + 1)).map h).map f)) := by
  rw [a, ← e, List.range_succ, List.map_append, List.map_append] <;> rfl
theorem compM_done {n : Nat} {h : List α → List β} (hl : n = xs.length) (a : H D = some (.lst ((h (xs.take n)).map f))) : H D = some (.lst ((h xs).map f)) := by
  rw [hl, List.take_length] at a
  exact a
theorem compM_listF {i : Nat} {x : α} {y : β} {h : α → β} {q : α → Bool} (hi : xs[i]? = some x) (hq : q x = true) (a : H D = some (.lst ((((xs.take i).filter q).map h).map f ++ [f y]))) (e : h x = y) : H D = some (.lst ((((xs.take (i + 1)).filter q).map h).map f)) := by
  rw [a, ← e, take_succ_get hi, List.filter_append, List.filter_cons, if_pos hq, List.map_append, List.map_append] <;> rfl
theorem skipM_list {i : Nat} {x : α} {h : α → β} {q : α → Bool} (hi : xs[i]? = some x) (hq : q x = false) (a : H D = some (.lst ((((xs.take i).filter q).map h).map f))) : H D = some (.lst ((((xs.take (i + 1)).filter q).map h).map f)) := by
  rw [a, take_succ_get hi, List.filter_append, List.filter_cons, if_neg (by rw [hq]; decide), List.filter_nil, List.append_nil]
theorem compM_rangeF {i : Nat} {y : β} {h : Nat → β} {q : Nat → Bool} (hq : q i = true) (a : H D = some (.lst ((((List.range i).filter q).map h).map f ++ [f y]))) (e : h i = y) : H D = some (.lst ((((List.range (i + 1)).filter q).map h).map f)) := by
  rw [a, ← e, List.range_succ, List.filter_append, List.filter_cons, if_pos hq, List.map_append, List.map_append] <;> rfl
theorem skipM_range {i : Nat} {h : Nat → β} {q : Nat → Bool} (hq : q i = false) (a : H D = some (.lst ((((List.range i).filter q).map h).map f))) : H D = some (.lst ((((List.range (i + 1)).filter q).map h).map f)) := by
  rw [a, List.range_succ, List.filter_append, List.filter_cons, if_neg (by rw [hq]; decide), List.filter_nil, List.append_nil]
end
/-! ### more rules -/
section
variable {X : Cx} {K : PySem.W.Frag}
theorem ix_tupK (hK : X.K = K := by rfl) : IxR X (rIxT K) := hK ▸ ix_tup
def rLenLK (K : PySem.W.Frag) : List V → Hp → VK → Prop := fun xs H Q => ∃ (p : Addr) (vs : List V) (n : Nat), xs = [.ref p] ∧ SqL K H p vs ∧ vs.length = n ∧ Q (.int (n : Int)) H
theorem call_lenLK (hK : X.K = K := by rfl) : CallR X (.builtin "len") (rLenLK K) := by
  subst hK
  intro pins s σ H xs us Q I r h
  obtain ⟨p, vs, n, rfl, hs, hn, q⟩ := h
  exact call_len_seq pins s σ H _ us Q I r ⟨p, _, rfl, Or.inl hs, by rw [hn]; exact q⟩
def rListLK (K : PySem.W.Frag) : List V → Hp → VK → Prop := fun xs H Q => ∃ (p : Addr) (vs : List V), xs = [.ref p] ∧ SqL K H p vs ∧ ∀ l, H l = none → Q (.ref l) (upd H l (.lst vs))
theorem call_listLK (hK : X.K = K := by rfl) : CallR X (.type "list") (rListLK K) := by
  subst hK
  intro pins s σ H xs us Q I r h
  obtain ⟨p, vs, rfl, hs, q⟩ := h
  exact call_list_of pins s σ H _ us Q I r ⟨p, _, rfl, Or.inl hs, q⟩
theorem cr_anyK (hc : X.calm = true) (hK : X.K = K := by rfl) : CallR X (.builtin "any") (rAny K) := hK ▸ cr_any hc
theorem cr_allK (hc : X.calm = true) (hK : X.K = K := by rfl) : CallR X (.builtin "all") (rAll K) := hK ▸ cr_all hc
theorem pi_tupK {tg l : Expr} {tl : TE} (hl : PE X l tl) (hK : X.K = K := by rfl) : PI X tg l (iTup K tl) := hK ▸ pi_tup hl
theorem pip {op : Operator} {r : R2} (h : OpR X (inplaceOp op) r) : PIp X op r := fun pins s σ H x y v u Q I rx ry q => h pins s σ H x y v u Q I rx ry q
/-- an item at a place from 0 on, by itself (ahead of o[i] op= e) -/
def rIxP (K : PySem.W.Frag) : R2 := fun x y H Q => ∃ (p : Addr) (xs : List V) (k : Int) (v : V), x = .ref p ∧ y = .int k ∧ SqL K H p xs ∧ 0 ≤ k ∧ k < 2 ^ 62 ∧ atI xs k = some v ∧ Q v H
theorem pget_list (hK : X.K = K := by rfl) : PGet X (rIxP K) := by
  subst hK
  intro pins s σ H o i ov iv Q I ro ri h
  obtain ⟨p, xs, k, v, rfl, rfl, hq, h0, h62, ha, q⟩ := h
  cases ro
  obtain ⟨t, rfl⟩ := ri
  obtain ⟨its, r, pl, hz⟩ := I.list hq
  obtain ⟨j, h1, h2, h3, h4, h5⟩ := atI_get ha
  obtain ⟨w, ew, rw'⟩ := r.get h2
  have hj : k.toNat = j := by
    rw [seqIndex_of h0 h5] at h1
    exact Option.some.inj h1
  exact getItem_listL pl.isList h0 (by omega) (by rw [hj]; simpa using ew) ⟨v, H, I, rw', q⟩
theorem tru_map {α : Type} [DecidableEq α] {f : α → V} {xs : List α} : (!decide (xs = [])) = !(xs.map f).isEmpty := by
  cases xs <;> simp
end
end Vx

namespace Vx
open PySem PySem.Spec PyProof.Rows L2
/-! ### objects -/
section
variable {M : List Addr} {H0 G0 G H H' : Hp} {O : List Addr} {p m : Addr} {o : HO}
theorem gen_obj {x dx : Addr} {o1 o2 : HO} (nx : H x = none) (nd : H dx = none) (ne : dx ≠ x) (h : upd (upd H dx o1) x o2 = H') : Same H H' ∧ H' x = some o2 := by
  subst h
  exact ⟨fun b u e => by rw [upd_ne (ne_of_none e nx), upd_ne (ne_of_none e nd)]; exact e, upd_same⟩
theorem sameX_of {m : Addr} (x : SameXs [m] H H') : SameX m H H' := fun b o e n => x b o e (by simpa using n)
theorem g_ne {a b : Addr} (h : G a = some o) (S : Sep M H0 G0 G H O) (hb : b ∈ O) : a ≠ b := fun z => by
  have := (S.ow b hb).1
  rw [← z, h] at this
  cases this
/-- an object whose making has laid some lists -/
theorem Sep.mutnew (S : Sep M H0 G0 G H O) {L : List Addr} (x : SameXs L H H') (hL : ∀ a ∈ L, a ∈ O) (hs : ∀ a ∈ L, H' a ≠ none) (hn : H p = none) (hp : H' p ≠ none) (h0 : H0 p = none) : Sep M H0 G0 G H' (p :: O) := by
  have S1 := S.mut x hL hs
  refine ⟨S1.base, S1.pm, S1.sG, S1.g0, S1.gn, all_cons ⟨S.gfree hn, hp, .inr h0⟩ S1.ow⟩
theorem Sep.init (S : Sep M H0 G0 G H O) (x : SameX m H H') (hm : m ∈ O) (h : H' m = some o) (L : List Addr) (hL : ∀ a ∈ L, H a = none ∧ H' a ≠ none ∧ H0 a = none) : Sep M H0 G0 G H' (L ++ O) := by
  have S1 := S.mut1 x hm h
  refine ⟨S1.base, S1.pm, S1.sG, S1.g0, S1.gn, fun a ha => ?_⟩
  rcases List.mem_append.mp ha with z | z
  · obtain ⟨h1, h2, h3⟩ := hL a z
    exact ⟨S.gfree h1, h2, .inr h3⟩
  · exact S1.ow a z
end
section
variable {P : Program} {w : World} {K : PySem.W.Frag} {mg : Str → Option Value} {base : Heap}
structure MethIn (K : PySem.W.Frag) (C : Addr) (q m : Str) (st : Stmt) (ps : List Str) : Prop where
  ex : ∃ (f : Addr) (fd : FuncData), Fun K m q st f fd ∧ Meth K C m f ∧ Binds K fd ps []
structure PropIn (K : PySem.W.Frag) (C : Addr) (q m : Str) (st : Stmt) (ps : List Str) : Prop where
  ex : ∃ (r f : Addr) (fd : FuncData), Fun K m q st f fd ∧ PropOf K C m r f ∧ Binds K fd ps []
structure InitIn (K : PySem.W.Frag) (mg : Str → Option Value) (C : Addr) (cn q : Str) (st : Stmt) (ps : List Str) : Prop where
  ex : ∃ (f : Addr) (fd : FuncData), Fun K "__init__" q st f fd ∧ Mk K C f ∧ mg cn = some (.ref C) ∧ Binds K fd ps []
structure MetC (P : Program) (w : World) (K : PySem.W.Frag) (mg : Str → Option Value) (base : Heap) (k : Nat) (C : Addr) (m : Str) (sp : Sp) : Prop where
  ex : ∃ (f : Addr) (fd : FuncData) (ps : List Str), Cls K C ∧ Meth K C m f ∧ FnOk P w K mg base CX0 k f fd ps sp ∧ Binds K fd ps []
structure PropC (P : Program) (w : World) (K : PySem.W.Frag) (mg : Str → Option Value) (base : Heap) (k : Nat) (C : Addr) (m : Str) (sp : Sp) : Prop where
  ex : ∃ (q f : Addr) (fd : FuncData) (ps : List Str), Cls K C ∧ PropOf K C m q f ∧ FnOk P w K mg base CX0 k f fd ps sp ∧ Binds K fd ps []
structure MakC (P : Program) (w : World) (K : PySem.W.Frag) (mg : Str → Option Value) (base : Heap) (k : Nat) (cn : Str) (C : Addr) (sp : Sp) : Prop where
  ex : ∃ (f : Addr) (fd : FuncData) (ps : List Str), Mk K C f ∧ FnOk P w K mg base CX0 k f fd ps sp ∧ mg cn = some (.ref C) ∧ Binds K fd ps []
abbrev Body (P : Program) (w : World) (K : PySem.W.Frag) (mg : Str → Option Value) (base : Heap) (x : Str) (st : Stmt) (N : List Str) (k : Nat) (sp : Sp) : Prop :=
  ∀ (f : Addr) (cdv : Value) (A : Around) (outer : List Env) (s : Shared) (H : Hp) (vs : List V) (Q : VK) (E : XK), Room k (A.deeper (envOfC x (defScope st) s.heap.objs.size f cdv)) → sp vs H Q E →
    ∃ t, PSs (cxOf CX0 P w K mg base N x (defScope st) f cdv A outer s H E).nox (defBody st) t ∧ t { nx := fun _ H' => Q .non H', rt := Q } (start N vs) H
theorem MethIn.ok {C : Addr} {q m : Str} {st : Stmt} {N ps : List Str} {k : Nat} {sp : Sp} (D : MethIn K C q m st ps) (c : Cls K C) (S : FnScope N ps (defScope st)) (len : ∀ vs H Q E, sp vs H Q E → vs.length = ps.length)
    (hbody : Body P w K mg base q st N k sp) : MetC P w K mg base (k + 1) C m sp := by
  obtain ⟨f, fd, F, me, b⟩ := D.ex
  exact ⟨f, fd, ps, c, me, F.ok S len (fun cdv A outer s H vs Q E hr h => hbody f cdv A outer s H vs Q E hr h), b⟩
theorem PropIn.ok {C : Addr} {q m : Str} {st : Stmt} {N ps : List Str} {k : Nat} {sp : Sp} (D : PropIn K C q m st ps) (c : Cls K C) (S : FnScope N ps (defScope st)) (len : ∀ vs H Q E, sp vs H Q E → vs.length = ps.length)
    (hbody : Body P w K mg base q st N k sp) : PropC P w K mg base (k + 1) C m sp := by
  obtain ⟨r, f, fd, F, me, b⟩ := D.ex
  exact ⟨r, f, fd, ps, c, me, F.ok S len (fun cdv A outer s H vs Q E hr h => hbody f cdv A outer s H vs Q E hr h), b⟩
theorem InitIn.ok {C : Addr} {cn q : Str} {st : Stmt} {N ps : List Str} {k : Nat} {sp : Sp} (D : InitIn K mg C cn q st ps) (S : FnScope N ps (defScope st)) (len : ∀ vs H Q E, sp vs H Q E → vs.length = ps.length)
    (hbody : Body P w K mg base q st N k sp) : MakC P w K mg base (k + 1) cn C sp := by
  obtain ⟨f, fd, F, me, hm, b⟩ := D.ex
  exact ⟨f, fd, ps, me, F.ok S len (fun cdv A outer s H vs Q E hr h => hbody f cdv A outer s H vs Q E hr h), hm, b⟩
end
section
variable {X : Cx} {k j : Nat} {C : Addr} {x m : Str} {sp : Sp} {p pos apos : Pos} {e o : Expr} {es : List Expr} {ta : TE} {t : TA}
theorem vx_call0 (c : Cal X.prog X.w X.K X.mg X.base k x sp) (hr : Room j X.A) (hk : k ≤ j) (hg : Gl X x) (hdb : (x == ("__debug__" : Str)) = false := by decide) : PE X (.Call (.Name x p) [] [] pos) (tCall sp [] E0 tNil) := by
  obtain ⟨f, fd, ps, F, hm, kp, b⟩ := c.ex
  exact pe_call0 F (hr.mono hk) hg hm kp b .nil pass0 hdb
theorem vx_make (c : MakC X.prog X.w X.K X.mg X.base k x C sp) (hr : Room j X.A) (hk : k + 1 ≤ j) (hg : Gl X x) (ha : PA X (e :: es) t)
    (hdb : (x == ("__debug__" : Str)) = false := by decide) (he : starEach (e :: es) X.env = (false, eval e X.env) :: starEach es X.env := by rfl) (hpl : (backTo pos (starEach es X.env)).any (·.1) = false := by rfl) :
    PE X (.Call (.Name x p) (e :: es) [] pos) (tMake C sp [] E0 t) := by
  obtain ⟨f, fd, ps, M, F, hm, b⟩ := c.ex
  exact pe_make M F (hr.mono hk) hg hm b .nil pass0 ha hdb he hpl
theorem vx_make0 (c : MakC X.prog X.w X.K X.mg X.base k x C sp) (hr : Room j X.A) (hk : k + 1 ≤ j) (hg : Gl X x) (hdb : (x == ("__debug__" : Str)) = false := by decide) :
    PE X (.Call (.Name x p) [] [] pos) (tMake C sp [] E0 tNil) := by
  obtain ⟨f, fd, ps, M, F, hm, b⟩ := c.ex
  exact pe_make0 M F (hr.mono hk) hg hm b .nil pass0 hdb
theorem vx_meth {pl : Sem Bool} (c : MetC X.prog X.w X.K X.mg X.base k C m sp) (hr : Room j X.A) (hk : k ≤ j) (he : PE X o ta) (ha : PA X (e :: es) t)
    (hst : starEach (e :: es) X.env = (false, eval e X.env) :: starEach es X.env := by rfl) (hpl : (backTo pos (starEach es X.env)).any (·.1) = false := by rfl)
    (ht : eval (.Call (.Attribute o m apos) (e :: es) [] pos) X.env = (do
      let ov ← eval o X.env
      standAt apos.atName
      let (f, first) ← holding [ov] (getMethod ov m pl)
      callWith pos f first (backTo pos (starEach (e :: es) X.env)) (backToKw pos (keywordEach [] X.env))) := by rfl) :
    PE X (.Call (.Attribute o m apos) (e :: es) [] pos) (tMeth C m sp [] E0 ta t) := by
  obtain ⟨f, fd, ps, hc, hm, F, b⟩ := c.ex
  exact pe_meth he hc hm F (hr.mono hk) b .nil pass0 ha hst hpl ht
theorem vx_meth0 {pl : Sem Bool} (c : MetC X.prog X.w X.K X.mg X.base k C m sp) (hr : Room j X.A) (hk : k ≤ j) (he : PE X o ta)
    (ht : eval (.Call (.Attribute o m apos) [] [] pos) X.env = (do
      let ov ← eval o X.env
      standAt apos.atName
      let (f, first) ← holding [ov] (getMethod ov m pl)
      callWith pos f first (backTo pos (starEach [] X.env)) (backToKw pos (keywordEach [] X.env))) := by rfl) :
    PE X (.Call (.Attribute o m apos) [] [] pos) (tMeth C m sp [] E0 ta tNil) := by
  obtain ⟨f, fd, ps, hc, hm, F, b⟩ := c.ex
  exact pe_meth0 he hc hm F (hr.mono hk) b .nil pass0 ht
theorem vx_prop (c : PropC X.prog X.w X.K X.mg X.base k C m sp) (hr : Room j X.A) (hk : k + 1 ≤ j) (he : PE X o ta) (hab : attributeBase o m X.env (eval o X.env) = eval o X.env) : PE X (.Attribute o m pos) (tProp C sp [] E0 ta) := by
  obtain ⟨q, f, fd, ps, hc, hp, F, b⟩ := c.ex
  exact pe_prop he hc hp F (hr.mono hk) b .nil pass0 hab
end
theorem iteBNT {b : Bool} {A B : Prop} (h : b = false) (k : A) : if (!b) = true then A else B := by rw [h]; exact iteT k
theorem iteNN {b : Bool} {A B : Prop} (h : if b = true then A else B) : if (!!b) = true then A else B := by rw [Bool.not_not]; exact h
theorem iteBNF {b : Bool} {A B : Prop} (h : b = true) (k : B) : if (!b) = true then A else B := by rw [h]; exact iteF k
theorem shl_side {i j : Int} (h0 : 0 ≤ j) (h1 : j ≤ 4096) (h2 : -(2 ^ 4096) < i) (h3 : i < 2 ^ 4096) : CShl i j := by
  obtain ⟨k, rfl⟩ := Int.eq_ofNat_of_zero_le h0
  exact shl_ok (n := 4096) (by omega) (by omega)
end Vx

namespace Vx
open PySem PySem.Spec PyProof.Rows L2
section
variable {X : Cx} {K : PySem.W.Frag}
theorem fldK {e : Expr} {f : Str} {pos : Pos} {ta : TE} (he : PE X e ta) (hb : attributeBase e f X.env (eval e X.env) = eval e X.env := by rfl) (hK : X.K = K := by rfl) : PE X (.Attribute e f pos) (tFld K ta f) := hK ▸ pe_fld he hb
theorem pg_tupK {es : List Expr} {k : Nat} {t : TGs} {n : Nat} {pos : Pos} (h : PGs X es t) (hc : X.calm = true := by rfl)
    (hn : (assignEach es X.env).length = n := by rfl) (hst : (assignEach es X.env).findIdx? (·.1) = none := by rfl) (hK : X.K = K := by rfl) : PG X (.Tuple es k pos) (gTup K n t) := hK ▸ pg_tup hc h hn hst
end
end Vx

namespace Vx
open PySem PySem.Spec PyProof.Rows L2
section
variable {α β : Type} {f : α → PyData} {g : β → PyData} {fv : α → V} {gv : β → V} {G : Hp} {vs ws : List V} {xs : List α} {ys : List β}
theorem big1 {n : Nat} (h : n ≤ 1000000) : n ≤ sizeLine := smallE h
theorem cat_len (a : RpAll G vs (xs.map f)) (b : RpAll G ws (ys.map g)) (h : xs.length + ys.length ≤ 1000000) : vs.length + ws.length ≤ sizeLine := by
  rw [a.len, b.len, List.length_map, List.length_map]; exact smallE h
theorem cat_lenM (h : xs.length + ys.length ≤ 1000000) : (xs.map fv).length + (ys.map gv).length ≤ sizeLine := by
  rw [List.length_map, List.length_map]; exact smallE h
theorem rep_len {k : Nat} (a : RpAll G vs (xs.map f)) (h : xs.length * k ≤ 1000000) : vs.length * k ≤ sizeLine := by
  rw [a.len, List.length_map]; exact smallE h
theorem rep_lenM {k : Nat} (h : xs.length * k ≤ 1000000) : (xs.map fv).length * k ≤ sizeLine := by
  rw [List.length_map]; exact smallE h
theorem app_len (a : RpAll G vs (xs.map f)) (h : xs.length ≤ 1000000) : vs.length < sizeLine := by
  rw [a.len, List.length_map]; exact small h
theorem app_lenM (h : xs.length ≤ 1000000) : (xs.map fv).length < sizeLine := by
  rw [List.length_map]; exact small h
theorem cutL_len {α : Type} (xs : List α) (lo hi : Option Int) : (cutL xs lo hi).length ≤ xs.length := by
  unfold cutL
  rw [List.length_take, List.length_drop]
  omega
theorem repL_len {α : Type} (xs : List α) (k : Int) : (repL xs k).length = k.toNat * xs.length := by
  unfold repL
  simp
end
end Vx
/-! # promises of defs that know that nothing is being shown (so that repr may be called) -/
namespace Vx
open PySem PySem.Spec PyProof.Rows L2
structure RoomG (k : Nat) (A : Around) : Prop extends Room k A where
  gd : A.guards = some []
theorem RoomG.low {j k : Nat} {A : Around} (r : RoomG k A) (h : j ≤ k) : RoomG j A := ⟨r.toRoom.mono h, r.gd⟩
theorem RoomG.one {k : Nat} {A : Around} (r : RoomG (k + 1) A) : RoomG k A.in1 := ⟨r.toRoom.in1, r.gd⟩
theorem make_gd {A : Around} (C : Addr) (us : List Value) (kw : List (Str × Value)) (h : A.guards = some []) : (A.under (.builtin "type.__call__" ⟨.ref C :: us, kw⟩)).guards = some [] := by
  obtain ⟨hd, d, fr, gs, u⟩ := A
  subst h
  simp [Around.under, Code.guards, Code.isGuard, guardIds, pushGuards]
theorem RoomG.made {k : Nat} {A : Around} (r : RoomG (k + 1) A) (C : Addr) (us : List Value) (kw : List (Str × Value)) : RoomG k (A.under (.builtin "type.__call__" ⟨.ref C :: us, kw⟩)) := ⟨r.toRoom.make C us kw, make_gd C us kw r.gd⟩
structure FnG (P : Program) (w : World) (K : PySem.W.Frag) (mg : Str → Option Value) (base : Heap) (cx : CXT) (k : Nat) (f : Addr) (fd : FuncData) (ps : List Str) (sp : Sp) : Prop where
  len : ∀ vs H Q E, sp vs H Q E → vs.length = ps.length
  run : ∀ (A : Around) (outer : List Env) (s : Shared) (H : Hp) (args : Args) (us : List Value) (vs : List V) (Q : VK) (E : XK), RoomG k A → Env0 P w K mg base A outer s H → BindsTo s fd args (ps.zip us) → Vals vs us → sp vs H Q E → codeAny (model P w) A (.call (.ref f) args) (CR cx outer P w H s Q E) s
section
variable {P : Program} {w : World} {K : PySem.W.Frag} {mg : Str → Option Value} {base : Heap} {cx : CXT} {j k : Nat} {f : Addr} {fd : FuncData} {ps : List Str} {sp sp' : Sp}
theorem FnG.imp (F : FnG P w K mg base cx k f fd ps sp) (h : ∀ vs H Q E, sp' vs H Q E → sp vs H Q E) : FnG P w K mg base cx k f fd ps sp' := ⟨fun vs H Q E q => F.len vs H Q E (h vs H Q E q), fun A o s H a us vs Q E r e b v q => F.run A o s H a us vs Q E r e b v (h vs H Q E q)⟩
/-- the body's promise is the def's -/
theorem FnG.body {x qual : Str} {params : Arguments} {body : List Stmt} {scope : Scope} {dvs : List V} {kws : List (Str × V)} {N : List Str} (F : FunD K x qual params body scope dvs kws f fd) (S : FnScope N ps scope) (len : ∀ vs H Q E, sp vs H Q E → vs.length = ps.length)
    (hb : ∀ (cdv : Value) (A : Around) (outer : List Env) (s : Shared) (H : Hp) (vs : List V) (Q : VK) (E : XK), RoomG k (A.deeper (envOfC qual scope s.heap.objs.size f cdv)) → sp vs H Q E →
      ∃ t, PSs (cxOf cx P w K mg base N qual scope f cdv A outer s H E) body t ∧ t { nx := fun _ H' => Q .non H', rt := Q } (start N vs) H) : FnG P w K mg base cx (k + 1) f fd ps sp := by
  obtain ⟨oc, od, dV, kV, doc, pm, an, cdv, ct, osl, rfl, lk, code, _, _⟩ := F.ex
  constructor
  · exact len
  · intro A outer s H args us vs Q E room env binds vals prom
    have nvs := len vs H Q E prom
    have kin : K.In s.heap := env.mod.kin.keeps fun b o q => (env.bs b o q).1
    have nolim : s.heap.NoLimit := env.mod.nolimit.keeps fun b o q => (env.bs b o q).1
    have kinds : ∀ q ∈ ps.zip us, scope.names.lookup q.1 = some .local ∨ (scope.names.lookup q.1 = some .cell ∧ ((cellsFrom (s.heap.objs.size + 1) scope.names []).lookup q.1).isSome = true) := by
      rintro ⟨n, v⟩ hq
      cases S.par n (List.of_mem_zip hq).1 with
      | inl z => exact .inl z
      | inr z => exact .inr ⟨z, PySem.W.cellsFrom_some _ _ _ (.inl z)⟩
    refine codeAny_call_function room.toRoom.depth (kin _ _ lk) rfl S.co S.gen rfl (PySem.W.codeRec_of kin code) (binds _ _ _ _ ?_)
    refine wpAny_newFunctionEnv_cells S.kind kinds ?_
    rintro _ rfl s1 made
    refine ⟨nolim.keeps made.toInCall.keep, codeAny_func ?_⟩
    obtain ⟨t, pss, start_⟩ := hb cdv A outer s H vs Q E ⟨room.toRoom.deeper _, room.gd⟩ prom
    have inv := inv_start (CX := cx) (E := E) S room.hd env nvs vals made
    have close : ∀ {τ : L2.St} {H2 : Hp} {v : V} {u : Value} {s2 : Shared}, Inv (cxOf cx P w K mg base N qual scope f cdv A outer s H E) [] τ H2 s2 → RelV v u → Q v H2 → CE outer P w H s Q u s2 := fun inv2 rel q => ⟨_, _, inv2.os, inv2.bare, inv2.base, inv2.hok, rel, q⟩
    refine wpAny_mono (pss.run [] s1 (start N vs) H _ inv start_) ?_ fun _ _ z => z
    intro flow s2 out
    cases flow with
    | next =>
      obtain ⟨τ, H2, inv2, q⟩ := out
      exact close (v := .non) (u := .none) inv2 rfl q
    | ret u =>
      obtain ⟨v, τ, H2, inv2, rel, q⟩ := out
      exact close inv2 rel q
    | brk =>
      obtain ⟨_, _, _, q⟩ := out
      exact q.elim
    | cont =>
      obtain ⟨_, _, _, q⟩ := out
      exact q.elim
/-- the same of a body that nothing leaves -/
theorem FnG.bodyN {x qual : Str} {params : Arguments} {body : List Stmt} {scope : Scope} {dvs : List V} {kws : List (Str × V)} {N : List Str} (F : FunD K x qual params body scope dvs kws f fd) (S : FnScope N ps scope) (len : ∀ vs H Q E, sp vs H Q E → vs.length = ps.length)
    (hb : ∀ (cdv : Value) (A : Around) (outer : List Env) (s : Shared) (H : Hp) (vs : List V) (Q : VK) (E : XK), RoomG k (A.deeper (envOfC qual scope s.heap.objs.size f cdv)) → sp vs H Q E →
      ∃ t, PSs (cxOf CX0 P w K mg base N qual scope f cdv A outer s H E).nox body t ∧ t { nx := fun _ H' => Q .non H', rt := Q } (start N vs) H) : FnG P w K mg base CX0 (k + 1) f fd ps sp :=
  FnG.body F S len fun cdv A outer s H vs Q E r p => by
    obtain ⟨t, h, q⟩ := hb cdv A outer s H vs Q E r p
    exact ⟨t, h.nox, q⟩
end
/-- where a law's call begins: an abstract heap that tells the script at most -/
theorem law_start {P : Program} {w : World} {K : PySem.W.Frag} {mg mb : Str → Option Value} {a : Addr} {s : Shared} {vs : List Value} {ns : List Int} (kin : K.In s.heap) (top : s.heap.Ns mainGlobals mg) (blt : s.heap.Ns builtinsNs mb) (boot : ∀ y : Str, y ≠ "__name__" → mb y = bootBuiltins y)
    (lim : s.heap.NoLimit) (gens : s.gens = #[]) (script : s.heap.get? a = some { cls := .type "list", data := .seq vs.toArray }) (whole : IntsAre vs ns) (short : ns.length ≤ sizeLine) :
    ∃ (H : Hp) (base : Heap), SqL K H a (ns.map V.int) ∧ K.In base ∧ base.Ns mainGlobals mg ∧ Env0 P w K mg base callerA [] s H ∧
      ∀ (Z : V → Prop) (u : Value) (s2 : Shared), CE [] P w H s (fun v _ => Z v) u s2 → (∃ v, RelV v u ∧ Z v) ∧ OldK s.heap s2.heap ∧ s2.os = s.os ∧ AllBare s2.gens := by
  have rel := vals_ints whole
  have lenV := whole.length
  -- any H that tells no more than the script, and that only where the written part does not hold it, will do
  have fits : ∀ H : Hp, (∀ b, H b = none ∨ ∃ o xs, H b = some (.frz o (.lst xs))) → SqL K H a (ns.map V.int) → HOk P w H s.heap → (∀ b, b ≠ a → H b = none) → (∀ o, K.lookup a = some o → H a = none) →
      ∃ (H : Hp) (base : Heap), SqL K H a (ns.map V.int) ∧ K.In base ∧ base.Ns mainGlobals mg ∧ Env0 P w K mg base callerA [] s H ∧
        ∀ (Z : V → Prop) (u : Value) (s2 : Shared), CE [] P w H s (fun v _ => Z v) u s2 → (∃ v, RelV v u ∧ Z v) ∧ OldK s.heap s2.heap ∧ s2.os = s.os ∧ AllBare s2.gens := by
    intro H only seq ok else_ apart
    have dictFree : ∀ (b : Addr) (o : Obj) (es : Array DictEntry) (n : Nat), s.heap.get? b = some o → o.data = .dict es n → H b = none := by
      intro b o es n e d
      by_cases z : b = a
      · subst z
        rw [script] at e
        injection e with e
        subst e
        cases d
      · exact else_ b z
    have nsOf : ∀ {b : Addr} {m : Str → Option Value}, s.heap.Ns b m → (hidT s.heap H).Ns b m := by
      rintro b m ⟨o, es, n, e, d, r⟩
      exact ⟨o, es, n, hidT_get e (dictFree b o es n e d), d, r⟩
    have kinB : K.In (hidT s.heap H) := by
      intro b o e
      refine hidT_get (kin b o e) ?_
      by_cases z : b = a
      · subst z
        exact apart o e
      · exact else_ b z
    obtain ⟨mc, lim1, lim2⟩ := lim
    refine ⟨H, hidT s.heap H, seq, kinB, nsOf top, ⟨rfl, ⟨kinB, nsOf top, ⟨mb, nsOf blt, boot⟩, mc, nsOf lim1, lim2⟩, fun b o e => of_hidT e, Nat.le_of_eq (hidT_size _ _), trivial, fun b hb => (nomatch (show b ∈ ([] : List Addr) from hb)), ok, .of_eq gens⟩, ?_⟩
    rintro Z u s2 ⟨v, H2, os, bare, un, ok2, r, z⟩
    refine ⟨⟨v, r, z⟩, OldK.of_keep fun b o e => ?_, os, bare⟩
    rcases only b with n | ⟨o1, xs, n⟩
    · exact un.keep b o e n (fun y => nomatch (show b ∈ ([] : List Addr) from y)) (fun y => nomatch y)
    · obtain ⟨e1, _⟩ := ok b _ n
      obtain ⟨e2, _⟩ := ok2 b _ (un.frzs b o1 _ n)
      rw [e] at e1
      injection e1 with e1
      subst e1
      exact e2
  cases kl : K.lookup a with
  | some o =>
    have e := kin a o kl
    rw [script] at e
    injection e with e
    subst e
    exact fits (fun _ => none) (fun _ => .inl rfl) (.inr ⟨_, vs.toArray, _, kl, rfl, rfl, rfl, by rw [List.size_toArray, lenV]; exact short, by simpa using rel⟩) (fun _ _ z => nomatch z) (fun _ _ => rfl) fun _ _ => rfl
  | none =>
    refine fits (fun b => if b = a then some (.frz { cls := .type "list", data := .seq vs.toArray } (.lst (ns.map V.int))) else none) ?_ (.inl (.inr ⟨_, if_pos rfl⟩)) ?_ (fun b n => if_neg n) fun o z => ?_
    · intro b
      by_cases z : b = a
      · exact .inr ⟨_, _, if_pos z⟩
      · exact .inl (if_neg z)
    · intro b u q
      by_cases z : b = a
      · subst z
        have q := (if_pos rfl).symm.trans q
        injection q with q
        subst q
        exact ⟨script, by rw [List.length_map]; exact short, vs, _, rel, script⟩
      · have q := (if_neg z).symm.trans q
        cases q
    · rw [kl] at z
      cases z
/-- the goal that the head leaves, from the law's promise; the script's numbers have at most 2 ^ 20 bits -/
theorem walkG {l : PySem.W.OpenLaw} {n k : Nat} {q : Program} {loose : List Str} {XP : (Str → Option Value) → Heap → Prop} {YP : World → Heap → Prop} {d : DefRec} {K : Params → PySem.W.Frag} {x : Str} (hn : l.most = some n) (hn2 : n ≤ sizeLine) (hdf : d.params.defaults = []) (room : Room k callerA)
    (hY : ∀ (w : World) (h : Heap), YP w h → (K w.params).In h)
    (F : ∀ (w : World) (mg : Str → Option Value) (fa : Addr) (h : Heap), (K w.params).In h → h.Ns mainGlobals mg → mg d.name = some (.ref fa) →
      ∃ fd : FuncData, (∀ (s : Shared) (u : Value), BindsTo s fd ⟨[u], []⟩ [(x, u)]) ∧ ∀ base : Heap, (K w.params).In base → base.Ns mainGlobals mg → FnG l.prog w (K w.params) mg base CX0 k fa fd [x] (fun vs H Q _ => ∃ (a : Addr) (ns : List Int), vs = [.ref a] ∧ SqL (K w.params) H a (ns.map V.int) ∧ ns.length ≤ n ∧ ∀ H', Q (.bl true) H')) :
    PySem.W.WalkO q loose XP YP l.row.toRowW d [] (fun f vs => PySem.call f vs) := by
  refine Att.attach_call hn hdf ?_
  intro w s₀ s₁ mg mb fa o pm cd doc a vs ns G Y _ _ _ hmg script whole short gens
  have kin := hY w _ Y
  obtain ⟨fd, bind, prom⟩ := F w mg fa _ kin G.T.g hmg
  obtain ⟨H, base, seq, kinB, nsB, env, fin⟩ := law_start (P := l.prog) (w := w) kin G.T.g G.T.b G.T.builtins G.T.nolimit gens script whole (Nat.le_trans short hn2)
  refine codeAny_mono ((prom base kinB nsB).run callerA [] s₁ H ⟨[.ref a], []⟩ [.ref a] [.ref a] (fun v _ => v = .bl true) (fun _ _ _ => False) ⟨room, rfl⟩ env (bind s₁ (.ref a)) (.cons rfl .nil) ⟨a, ns, rfl, seq, short, fun _ => rfl⟩) ?_
  intro r s2 out
  cases r with
  | error e => exact out.elim
  | ok flow =>
    cases flow with
    | ret u =>
      obtain ⟨⟨v, rv, z⟩, h1, h2, h3⟩ := fin (fun v => v = .bl true) u s2 out
      subst z
      obtain rfl : u = Value.bool true := rv
      exact ⟨rfl, h1, h2, h3⟩
    | next => exact out.elim
    | brk => exact out.elim
    | cont => exact out.elim
end Vx
/-! # third part: what a def computes, as a plain function with refusals -/
namespace Vx
open PySem PySem.Spec PyProof.Rows L2
inductive Rx (α : Type) where
  | ok (a : α)
  | er (e : Nat)
  | bad
def Rx.bind {α β : Type} (m : Rx α) (f : α → Rx β) : Rx β :=
  match m with
  | .ok a => f a
  | .er e => .er e
  | .bad => .bad
/-- what is wanted of an outcome -/
def cW {α : Type} (m : Rx α) (K : α → Prop) (E : Nat → Prop) : Prop :=
  match m with
  | .ok a => K a
  | .er e => E e
  | .bad => False
def grd {α : Type} (p : Prop) [Decidable p] (m : Rx α) : Rx α := if p then m else .bad
/-- within a comprehension nothing may be raised -/
def noEr {α : Type} (m : Rx α) : Rx α :=
  match m with
  | .ok a => .ok a
  | _ => .bad
/-- what the clause does not name may not come -/
def tryR {α β : Type} (m : Rx α) (cs : List Nat) (f : α → Rx β) (h : Nat → Rx β) : Rx β :=
  match m with
  | .ok a => f a
  | .er e => if e ∈ cs then h e else .bad
  | .bad => .bad
def bnd {α β : Type} (a : α) (f : α → Rx β) : Rx β := f a
inductive Lp (σ ρ : Type) where
  | go (s : σ)
  | bk (s : σ)
  | rt (r : ρ)
def Lp.aft {σ ρ τ : Type} (l : Lp σ ρ) (kr : ρ → Rx τ) (k : σ → Rx τ) : Rx τ :=
  match l with
  | .go s => k s
  | .bk s => k s
  | .rt r => kr r
def forS {σ α : Type} : List α → σ → (σ → α → Rx σ) → Rx σ
  | [], s, _ => .ok s
  | x :: r, s, f => (f s x).bind fun s' => forS r s' f
def forR {σ α ρ : Type} : List α → σ → (σ → α → Rx (Lp σ ρ)) → Rx (Lp σ ρ)
  | [], s, _ => .ok (.go s)
  | x :: r, s, f => (f s x).bind fun l =>
    match l with
    | .go s' => forR r s' f
    | .bk s' => .ok (.go s')
    | .rt v => .ok (.rt v)
def whileR {σ ρ : Type} : Nat → σ → (σ → Rx (Lp σ ρ)) → Rx (Lp σ ρ)
  | 0, _, _ => .bad
  | n + 1, s, f => (f s).bind fun l =>
    match l with
    | .go s' => whileR n s' f
    | .bk s' => .ok (.go s')
    | .rt v => .ok (.rt v)
def mapA {α β : Type} : List α → List β → (α → Rx β) → Rx (List β)
  | [], acc, _ => .ok acc
  | x :: r, acc, f => grd (acc.length ≤ 1000000) ((f x).bind fun y => mapA r (acc ++ [y]) f)
def mapF {α β : Type} : List α → List β → (α → Rx (Option β)) → Rx (List β)
  | [], acc, _ => .ok acc
  | x :: r, acc, f => grd (acc.length ≤ 1000000) ((f x).bind fun y =>
    match y with
    | some z => mapF r (acc ++ [z]) f
    | none => mapF r acc f)
section
variable {α β γ σ ρ τ : Type} {K : α → Prop} {E : Nat → Prop}
theorem cW_gen {m : Rx α} (h : cW m K E) : ∃ (K' : α → Prop) (E' : Nat → Prop), (∀ v, K' v → K v) ∧ (∀ e, E' e → E e) ∧ cW m K' E' := ⟨K, E, fun _ x => x, fun _ x => x, h⟩
theorem cW_grd {p : Prop} {dp : Decidable p} {m : Rx α} (h : cW (grd p m) K E) : p ∧ cW m K E := by
  unfold grd at h
  split at h
  · exact ⟨‹p›, h⟩
  · exact h.elim
theorem cW_pos {p : Prop} {dp : Decidable p} {a b : Rx α} (c : p) (h : cW (if p then a else b) K E) : cW a K E := by rwa [if_pos c] at h
theorem cW_neg {p : Prop} {dp : Decidable p} {a b : Rx α} (c : ¬ p) (h : cW (if p then a else b) K E) : cW b K E := by rwa [if_neg c] at h
theorem cW_call {m : Rx β} {f : β → Rx α} {K2 : β → Prop} {E2 : Nat → Prop} (h : cW (m.bind f) K E) (ho : ∀ v, cW (f v) K E → K2 v) (he : ∀ e, E e → E2 e) : cW m K2 E2 := by
  cases m with
  | ok a => exact ho a h
  | er e => exact he e h
  | bad => exact h
theorem cW_push {m : Rx β} {f : β → Rx α} (h : cW (m.bind f) K E) : ∃ K2 : β → Prop, (∀ v, K2 v → cW (f v) K E) ∧ cW m K2 E := ⟨fun v => cW (f v) K E, fun _ x => x, cW_call h (fun _ x => x) fun _ x => x⟩
theorem cW_name {m : Rx α} (h : cW m K E) : ∃ K' : α → Prop, (∀ v, K' v → K v) ∧ cW m K' E := ⟨K, fun _ x => x, h⟩
theorem cW_noEr {m : Rx α} (h : cW (noEr m) K E) : cW m K (fun _ => False) := by
  cases m with
  | ok a => exact h
  | er e => exact h
  | bad => exact h
theorem cW_try {m : Rx β} {cs : List Nat} {f : β → Rx α} {g : Nat → Rx α} {K2 : β → Prop} {E2 : Nat → Prop} (h : cW (tryR m cs f g) K E) (ho : ∀ v, cW (f v) K E → K2 v) (hc : ∀ e, e ∈ cs → cW (g e) K E → E2 e) : cW m K2 E2 := by
  cases m with
  | ok a => exact ho a h
  | er e =>
    have h2 : cW (if e ∈ cs then g e else .bad) K E := h
    by_cases q : e ∈ cs
    · exact hc e q (cW_pos q h2)
    · exact (cW_neg q h2).elim
  | bad => exact h
theorem cW_bnd {a : β} {f : β → Rx α} (h : cW (bnd a f) K E) : cW (f a) K E := h
theorem cW_ok {a : α} (h : cW (.ok a) K E) : K a := h
theorem cW_er {e : Nat} (h : cW (.er e : Rx α) K E) : E e := h
theorem cW_negB {b : Bool} {x y : Rx α} (c : b = false) (h : cW (if b = true then x else y) K E) : cW y K E := cW_neg (by rw [c]; decide) h
theorem cW_forS {xs : List β} {i : Nat} {x : β} {s : α} {f : α → β → Rx α} (hx : xs[i]? = some x) (h : cW (forS (xs.drop i) s f) K E) : cW (f s x) (fun s' => cW (forS (xs.drop (i + 1)) s' f) K E) E := by
  rw [List.drop_eq_getElem?_toList_append, hx] at h
  exact cW_call h (fun _ z => z) fun _ z => z
theorem cW_forS0 {xs : List β} {n : Nat} {s : α} {f : α → β → Rx α} (hn : n = xs.length) (h : cW (forS (xs.drop n) s f) K E) : K s := by
  subst hn
  rw [List.drop_length] at h
  exact h
theorem cW_forR {K : Lp σ ρ → Prop} {xs : List β} {i : Nat} {x : β} {s : σ} {f : σ → β → Rx (Lp σ ρ)} (hx : xs[i]? = some x) (h : cW (forR (xs.drop i) s f) K E) :
    cW (f s x) (fun l => match l with | .go s' => cW (forR (xs.drop (i + 1)) s' f) K E | .bk s' => K (.go s') | .rt v => K (.rt v)) E := by
  rw [List.drop_eq_getElem?_toList_append, hx] at h
  refine cW_call h (fun l z => ?_) fun _ z => z
  cases l with
  | go s' => exact z
  | bk s' => exact z
  | rt v => exact z
theorem cW_forR0 {K : Lp σ ρ → Prop} {xs : List β} {n : Nat} {s : σ} {f : σ → β → Rx (Lp σ ρ)} (hn : n = xs.length) (h : cW (forR (xs.drop n) s f) K E) : K (.go s) := by
  subst hn
  rw [List.drop_length] at h
  exact h
theorem cW_whileR {K : Lp σ ρ → Prop} {m : Nat} {s : σ} {f : σ → Rx (Lp σ ρ)} (h : cW (whileR m s f) K E) :
    ∃ n, m = n + 1 ∧ cW (f s) (fun l => match l with | .go s' => cW (whileR n s' f) K E | .bk s' => K (.go s') | .rt v => K (.rt v)) E := by
  cases m with
  | zero => exact h.elim
  | succ n =>
    refine ⟨n, rfl, cW_call h (fun l z => ?_) fun _ z => z⟩
    cases l with
    | go s' => exact z
    | bk s' => exact z
    | rt v => exact z
theorem cW_mapA {K : List α → Prop} {xs : List β} {acc : List α} {i : Nat} {x : β} {f : β → Rx α} (hx : xs[i]? = some x) (h : cW (mapA (xs.drop i) acc f) K E) :
    acc.length ≤ 1000000 ∧ cW (f x) (fun y => cW (mapA (xs.drop (i + 1)) (acc ++ [y]) f) K E) E := by
  rw [List.drop_eq_getElem?_toList_append, hx] at h
  obtain ⟨z, h⟩ := cW_grd h
  exact ⟨z, cW_call h (fun _ z => z) fun _ z => z⟩
theorem cW_mapA0 {K : List α → Prop} {xs : List β} {acc : List α} {n : Nat} {f : β → Rx α} (hn : n = xs.length) (h : cW (mapA (xs.drop n) acc f) K E) : K acc := by
  subst hn
  rw [List.drop_length] at h
  exact h
theorem cW_mapF {K : List α → Prop} {xs : List β} {acc : List α} {i : Nat} {x : β} {f : β → Rx (Option α)} (hx : xs[i]? = some x) (h : cW (mapF (xs.drop i) acc f) K E) :
    acc.length ≤ 1000000 ∧ cW (f x) (fun y => match y with | some z => cW (mapF (xs.drop (i + 1)) (acc ++ [z]) f) K E | none => cW (mapF (xs.drop (i + 1)) acc f) K E) E := by
  rw [List.drop_eq_getElem?_toList_append, hx] at h
  obtain ⟨z, h⟩ := cW_grd h
  refine ⟨z, cW_call h (fun y z => ?_) fun _ z => z⟩
  cases y with
  | none => exact z
  | some w => exact z
theorem cW_mapF0 {K : List α → Prop} {xs : List β} {acc : List α} {n : Nat} {f : β → Rx (Option α)} (hn : n = xs.length) (h : cW (mapF (xs.drop n) acc f) K E) : K acc := by
  subst hn
  rw [List.drop_length] at h
  exact h
end
/-- the numbers of a range -/
def rng (lo : Int) (n : Nat) : List Int := (List.range n).map fun (j : Nat) => lo + (j : Int)
theorem rng_get {lo : Int} {n i : Nat} (h : i < n) : (rng lo n)[i]? = some (lo + (i : Int)) := by
  unfold rng
  rw [List.getElem?_map, List.getElem?_range h] <;> rfl
theorem rng_len (lo : Int) (n : Nat) : (rng lo n).length = n := by
  unfold rng
  rw [List.length_map, List.length_range]

def rngD (lo : Int) (n : Nat) : List Int := (List.range n).map fun (j : Nat) => lo + (j : Int) * (-1)
theorem rngD_get {lo : Int} {n i : Nat} (h : i < n) : (rngD lo n)[i]? = some (lo + (i : Int) * (-1)) := by
  unfold rngD
  rw [List.getElem?_map, List.getElem?_range h] <;> rfl
theorem rngD_len (lo : Int) (n : Nat) : (rngD lo n).length = n := by
  unfold rngD
  rw [List.length_map, List.length_range]

/-! ### calls that may raise -/
/-- what a call with n values and keywords ks gives the parameters -/
structure Bnd (K : PySem.W.Frag) (fd : FuncData) (ps : List Str) (n : Nat) (ks : List Str) (g : List V → List V → List V) : Prop where
  to : ∀ (s : Shared) (us ws : List Value) (vs zs : List V), K.In s.heap → vs.length = n → zs.length = ks.length → Vals vs us → Vals zs ws → ∃ vv : List Value, BindsTo s fd ⟨us, ks.zip ws⟩ (ps.zip vv) ∧ Vals (g vs zs) vv
theorem Bnd.of_kbn {K : PySem.W.Frag} {fd : FuncData} {ps ks : List Str} {n : Nat} {g : List Value → List Value → List Value} {gV : List V → List V → List V} (b : KBn K fd ps n ks g gV) : Bnd K fd ps n ks gV :=
  ⟨fun s us ws vs zs X l1 l2 r rz => ⟨g us ws, b.to s us ws X (r.length.symm.trans l1) (rz.length.symm.trans l2), b.rel r rz⟩⟩
theorem Bnd.all {K : PySem.W.Frag} {fd : FuncData} {ps ks : List Str} {n : Nat} {g : List V → List V → List V} (h : ∀ (us ws : List Value) (vs zs : List V), vs.length = n → zs.length = ks.length → Vals vs us → Vals zs ws →
    ∃ vv : List Value, bindArgs fd ⟨us, ks.zip ws⟩ = pure (ps.zip vv) ∧ Vals (g vs zs) vv) : Bnd K fd ps n ks g :=
  ⟨fun s us ws vs zs _ l1 l2 r rz => by
    obtain ⟨vv, e, q⟩ := h us ws vs zs l1 l2 r rz
    exact ⟨vv, BindsTo.of_eq e, q⟩⟩
abbrev Pat := Nat × List Str × (List V → List V → List V)
def Bnd1 (K : PySem.W.Frag) (fd : FuncData) (ps : List Str) (p : Pat) : Prop := Bnd K fd ps p.1 p.2.1 p.2.2
section
variable {P : Program} {w : World} {K : PySem.W.Frag} {mg : Str → Option Value} {base : Heap}
/-- a def of the top, with the ways it is called -/
structure DefX (K : PySem.W.Frag) (mg : Str → Option Value) (x : Str) (st : Stmt) (ps : List Str) (pats : List Pat) : Prop where
  ex : ∃ (f : Addr) (fd : FuncData) (dvs : List V) (kws : List (Str × V)), FunD K x x (defArgs st) (defBody st) (defScope st) dvs kws f fd ∧ mg x = some (.ref f) ∧ ∀ p ∈ pats, Bnd1 K fd ps p
structure CalX (P : Program) (w : World) (K : PySem.W.Frag) (mg : Str → Option Value) (base : Heap) (k : Nat) (x : Str) (sp : Sp) (pats : List Pat) : Prop where
  ex : ∃ (f : Addr) (fd : FuncData) (ps : List Str), FnG P w K mg base (L2.CX P w) k f fd ps sp ∧ mg x = some (.ref f) ∧ PySem.W.keepIn K (.ref f) = true ∧ ∀ p ∈ pats, Bnd1 K fd ps p
abbrev BodyX (P : Program) (w : World) (K : PySem.W.Frag) (mg : Str → Option Value) (base : Heap) (x : Str) (st : Stmt) (N : List Str) (k : Nat) (sp : Sp) : Prop :=
  ∀ (f : Addr) (cdv : Value) (A : Around) (outer : List Env) (s : Shared) (H : Hp) (vs : List V) (Q : VK) (E : XK), RoomG k (A.deeper (envOfC x (defScope st) s.heap.objs.size f cdv)) → sp vs H Q E →
    ∃ t, PSs (cxOf (L2.CX P w) P w K mg base N x (defScope st) f cdv A outer s H E) (defBody st) t ∧ t { nx := fun _ H' => Q .non H', rt := Q } (start N vs) H
theorem DefX.ok {x : Str} {st : Stmt} {N ps : List Str} {pats : List Pat} {k : Nat} {sp : Sp} (D : DefX K mg x st ps pats) (S : FnScope N ps (defScope st)) (len : ∀ vs H Q E, sp vs H Q E → vs.length = ps.length)
    (hbody : BodyX P w K mg base x st N k sp) : CalX P w K mg base (k + 1) x sp pats := by
  obtain ⟨f, fd, dvs, kws, F, hm, b⟩ := D.ex
  exact ⟨f, fd, ps, FnG.body F S len (fun cdv A outer s H vs Q E hr h => hbody f cdv A outer s H vs Q E hr h), hm, F.kp, b⟩
end
section
variable {X : Cx} {k j n : Nat} {f : Addr} {fd : FuncData} {ps ks : List Str} {g : List V → List V → List V} {sp : Sp} {x : Str} {pos p : Pos} {e : Expr} {es : List Expr} {kws : List Keyword} {t tk : TA} {W : WX}
theorem run_X {pins : List (Addr × Obj)} {σ : L2.St} {H : Hp} {s : Shared} {Q : VK} {us ws : List Value} {vs zs : List V} (F : FnG X.prog X.w X.K X.mg X.base (L2.CX X.prog X.w) k f fd ps sp) (hr : RoomG k X.A) (hb : Bnd X.K fd ps n ks g) (tkW : Takes X W)
    (I : Inv X pins σ H s) (r : Vals vs us) (rz : Vals zs ws) (l1 : vs.length = n) (l2 : zs.length = ks.length) (h : sp (g vs zs) H Q (WE W σ)) :
    wpAny (model X.prog X.w) X.A (call (.ref f) us (ks.zip ws)) (EP X pins σ Q) X.xe s := by
  obtain ⟨vv, b, r2⟩ := hb.to s us ws vs zs I.kIn l1 l2 r rz
  refine wpAny_call (codeAny_mono (F.run X.A X.stack s H ⟨us, ks.zip ws⟩ vv (g vs zs) Q (WE W σ) hr I.env0 b r2 h) fun rr s' hq => ?_)
  cases rr with
  | error er => exact passAt tkW σ pins H s er s' I hq
  | ok fl =>
    cases fl with
    | ret u => exact I.after hq
    | next => exact hq.elim
    | brk => exact hq.elim
    | cont => exact hq.elim
/-- f(e, .., k = v, ..) -/
def tCallX (n m : Nat) (sp : Sp) (g : List V → List V → List V) (W : WX) (t tk : TA) : TE := fun σ H Q => t σ H fun vs H1 => tk σ H1 fun zs H2 => vs.length = n ∧ zs.length = m ∧ sp (g vs zs) H2 Q (WE W σ)
theorem vx_callX {pats : List Pat} (c : CalX X.prog X.w X.K X.mg X.base k x sp pats) (pt : Pat) (hpt : pt ∈ pats) (hr : RoomG j X.A) (hk : k ≤ j) (tkW : Takes X W) (hg : Gl X x) (ha : PA X (e :: es) t) (hkw : PK X kws tk)
    (hall : (backToKw pos (keywordEach kws X.env)).all (·.1.isSome) = true := by rfl) (hks : (backToKw pos (keywordEach kws X.env)).filterMap (·.1) = pt.2.1 := by rfl)
    (hdb : (x == ("__debug__" : Str)) = false := by decide) (he : starEach (e :: es) X.env = (false, eval e X.env) :: starEach es X.env := by rfl)
    (hpl : ((backTo pos (starEach (e :: es) X.env)).any (·.1) || (backToKw pos (keywordEach kws X.env)).any (·.1.isNone)) = false := by rfl) :
    PE X (.Call (.Name x p) (e :: es) kws pos) (tCallX pt.1 pt.2.1.length sp pt.2.2 W t tk) := by
  obtain ⟨f, fd, ps, F, hm, kp, b⟩ := c.ex
  refine ⟨fun pins s σ H Q I h => ?_⟩
  refine wpAny_Call_Name_kw (ld_glob I hg hm ?_ hdb)
  refine PySem.W.callWith_KW (h₀ := X.base) I.ok.mod.kin kp hall (thn (ha.run pos pins s σ H _ I h) fun us s1 ⟨vs, H1, I1, r, q⟩ => ?_) hpl he
  refine thn (hkw.run pos pins s1 σ H1 _ I1 q) fun ws s2 ⟨zs, H2, I2, rz, l1, l2, q2⟩ => ⟨I2.kIn, ?_⟩
  rw [hks]
  exact run_X F (hr.low hk) (b pt hpt) tkW I2 r rz l1 l2 q2
theorem vx_callX0 {pats : List Pat} (c : CalX X.prog X.w X.K X.mg X.base k x sp pats) (pt : Pat) (hpt : pt ∈ pats) (hr : RoomG j X.A) (hk : k ≤ j) (tkW : Takes X W) (hg : Gl X x) (hks : pt.2.1 = [] := by rfl)
    (hdb : (x == ("__debug__" : Str)) = false := by decide) : PE X (.Call (.Name x p) [] [] pos) (tCallX pt.1 pt.2.1.length sp pt.2.2 W tNil tNil) := by
  obtain ⟨f, fd, ps, F, hm, kp, b⟩ := c.ex
  refine ⟨fun pins s σ H Q I h => ?_⟩
  refine wpAny_Call_Name_kw (ld_glob I hg hm ?_ hdb)
  obtain ⟨l1, l2, q2⟩ := h
  have hz := run_X (us := []) (ws := []) F (hr.low hk) (b pt hpt) tkW I .nil .nil l1 l2 q2
  rw [hks] at hz
  exact PySem.W.callWith_K0 I.kIn kp hz
end
/-! ### borrowed things -/
theorem Sep.bM {M : List Addr} {H0 G0 G H : Hp} {O : List (Addr)} (S : Sep M H0 G0 G H O) : Same (hideL M H0) H := fun b o e => by
  by_cases h : b ∈ M
  · rw [hideL_in h] at e
    cases e
  · rw [hideL_out h] at e
    exact S.base b o e h
theorem b_ne {M : List Addr} {H0 G0 G H : Hp} {O : List Addr} {a b : Addr} {o : HO} (h : (hideL M H0) a = some o) (S : Sep M H0 G0 G H O) (hb : b ∈ O) : a ≠ b := fun z => by
  subst z
  rcases (S.ow a hb).2.2 with q | q
  · rw [hideL_in q] at h
    cases h
  · by_cases hM : a ∈ M
    · rw [hideL_in hM] at h
      cases h
    · rw [hideL_out hM, q] at h
      cases h
theorem hide0 {H : Hp} : hideL [] H = H := by
  funext b
  unfold hideL
  rw [if_neg List.not_mem_nil]
theorem hide_nil {H : Hp} {a : Addr} {o : HO} (h : H a = some o) : (hideL [] H) a = some o := by
  rw [hide0]
  exact h
theorem Rp.hide_nil {H : Hp} {v : V} {d : PyData} (h : Rp H v d) : Rp (hideL [] H) v d := by
  rw [hide0]
  exact h
theorem Sep.startM {M : List Addr} {G H : Hp} (e : Same G H) (hM : ∀ a ∈ M, H a ≠ none) (hG : ∀ a ∈ M, G a = none) : Sep M H G G H M :=
  ⟨fun _ _ e _ => e, hM, e, Same.refl _, fun _ _ e => e, fun a ha => ⟨hG a ha, hM a ha, .inl ha⟩⟩
theorem Sep.gno {M : List Addr} {H0 G0 G H : Hp} {O L : List Addr} (S : Sep M H0 G0 G H O) (h : ∀ a ∈ L, a ∈ O) : ∀ a ∈ L, G a = none := fun a ha => (S.ow a (h a ha)).1
theorem RpAll.ixD {α : Type} [Inhabited α] {f : α → PyData} {H : Hp} {vs : List V} {xs : List α} {k : Int} (r : RpAll H vs (xs.map f)) (h : -(xs.length : Int) ≤ k ∧ k < xs.length) : ∃ v, atI vs k = some v ∧ Rp H v (f (itD xs k)) := by
  obtain ⟨v, x, h1, h2, h3⟩ := RpAll.ix r h
  refine ⟨v, h1, ?_⟩
  unfold itD
  rw [h2]
  exact h3
theorem tru_all {α : Type} [DecidableEq α] {f : α → PyData} {H : Hp} {vs : List V} {xs : List α} (r : RpAll H vs (xs.map f)) : (!decide (xs = [])) = !vs.isEmpty := by
  have h := r.len
  rw [List.length_map] at h
  cases xs <;> cases vs <;> simp_all
theorem ix_nn {α : Type} {xs : List α} {k : Int} (h0 : 0 ≤ k) (h1 : k < xs.length) : -(xs.length : Int) ≤ k ∧ k < xs.length := ⟨by omega, h1⟩
theorem all_nilQ {α : Type} {P : α → Prop} : ∀ x ∈ ([] : List α), P x := fun x h => by cases h
theorem all_consQ {α : Type} {P : α → Prop} {a : α} {l : List α} (h : P a) (t : ∀ x ∈ l, P x) : ∀ x ∈ a :: l, P x := fun x hx => by
  rcases List.mem_cons.mp hx with rfl | hx
  · exact h
  · exact t x hx
theorem mem_one {a b : Nat} (h : a ∈ [b]) : a = b := by simpa using h
theorem mem_cons2 {a b : Nat} {l : List Nat} (h : a ∈ b :: l) : a = b ∨ a ∈ l := List.mem_cons.mp h
theorem len0 {α : Type} {l : List α} (h : l.length = 0) : l = [] := List.length_eq_zero_iff.mp h
theorem len1 {α : Type} {l : List α} (h : l.length = 1) : ∃ a, l = [a] := List.length_eq_one_iff.mp h
theorem len_s {α : Type} {l : List α} {n : Nat} (h : l.length = n + 1) : ∃ a r, l = a :: r ∧ r.length = n := by
  cases l with
  | nil => cases h
  | cons a r => exact ⟨a, r, rfl, Nat.succ.inj h⟩
theorem len2 {α : Type} {l : List α} (h : l.length = 2) : ∃ a b, l = [a, b] := by
  obtain ⟨a, r, rfl, h2⟩ := len_s h
  obtain ⟨b, rfl⟩ := len1 h2
  exact ⟨a, b, rfl⟩
theorem len3 {α : Type} {l : List α} (h : l.length = 3) : ∃ a b c, l = [a, b, c] := by
  obtain ⟨a, r, rfl, h2⟩ := len_s h
  obtain ⟨b, c, rfl⟩ := len2 h2
  exact ⟨a, b, c, rfl⟩
theorem len4 {α : Type} {l : List α} (h : l.length = 4) : ∃ a b c d, l = [a, b, c, d] := by
  obtain ⟨a, r, rfl, h2⟩ := len_s h
  obtain ⟨b, c, d, rfl⟩ := len3 h2
  exact ⟨a, b, c, d, rfl⟩
theorem len5 {α : Type} {l : List α} (h : l.length = 5) : ∃ a b c d e, l = [a, b, c, d, e] := by
  obtain ⟨a, r, rfl, h2⟩ := len_s h
  obtain ⟨b, c, d, e, rfl⟩ := len4 h2
  exact ⟨a, b, c, d, e, rfl⟩
theorem len6 {α : Type} {l : List α} (h : l.length = 6) : ∃ a b c d e f, l = [a, b, c, d, e, f] := by
  obtain ⟨a, r, rfl, h2⟩ := len_s h
  obtain ⟨b, c, d, e, f, rfl⟩ := len5 h2
  exact ⟨a, b, c, d, e, f, rfl⟩
theorem len7 {α : Type} {l : List α} (h : l.length = 7) : ∃ a b c d e f g, l = [a, b, c, d, e, f, g] := by
  obtain ⟨a, r, rfl, h2⟩ := len_s h
  obtain ⟨b, c, d, e, f, g, rfl⟩ := len6 h2
  exact ⟨a, b, c, d, e, f, g, rfl⟩
def rLenTK (K : PySem.W.Frag) : List V → Hp → VK → Prop := fun xs H Q => ∃ (p : Addr) (vs : List V) (n : Nat), xs = [.ref p] ∧ SqT K H p vs ∧ vs.length = n ∧ Q (.int (n : Int)) H
theorem call_lenTK {X : Cx} {K : PySem.W.Frag} (hK : X.K = K := by rfl) : CallR X (.builtin "len") (rLenTK K) := by
  subst hK
  intro pins s σ H xs us Q I r h
  obtain ⟨p, vs, n, rfl, hs, hn, q⟩ := h
  exact call_len_seq pins s σ H _ us Q I r ⟨p, _, rfl, Or.inr hs, by rw [hn]; exact q⟩
theorem exm_mk {K : PySem.W.Frag} {S C : Addr} (h1 : PySem.W.subIn K (.ref C) (.type "BaseException") = some true) (h2 : PySem.W.isClsIn K C = true) (h3 : PySem.W.typeIn K (.ref C) = some (.type "type")) (h4 : PySem.W.subIn K (.ref S) (.ref C) = some true) :
    PySem.W.exmOne K (.ref S) (.ref C) = some true := by
  unfold PySem.W.isClsIn at h2
  unfold PySem.W.exmOne
  unfold PySem.W.kitCls
  simp only [h1, h2, h3, h4, beq_self_eq_true, Bool.and_self, if_true]
theorem kit_mk {K : PySem.W.Frag} {S C : Addr} (h2 : PySem.W.isClsIn K C = true) (h3 : PySem.W.typeIn K (.ref C) = some (.type "type")) (h4 : PySem.W.subIn K (.ref S) (.ref C) = some true) :
    PySem.W.kitOne K (.ref S) (.ref C) = some true := by
  unfold PySem.W.isClsIn at h2
  unfold PySem.W.kitOne
  split
  · rfl
  · unfold PySem.W.kitCls
    simp only [h2, h3, h4, beq_self_eq_true, Bool.and_self, if_true]
/-- isinstance(e, C) of the exception in hand -/
def rIsX (K : PySem.W.Frag) (a : Addr) (cls : Value) (d : Option Addr) : List V → Hp → VK → Prop := fun xs H Q => ∃ (D C : Addr) (b : Bool), cls = .ref D ∧ d = none ∧ ExcC K D ∧ xs = [.ref a, .ref C] ∧ PySem.W.kitOne K (.ref D) (.ref C) = some b ∧ Q (.bl b) H
theorem call_isX {X : Cx} {K : PySem.W.Frag} {a : Addr} {cls : Value} {d : Option Addr} {oe : Obj} {pn : List (Addr × Obj)} (hz : Zc cls d oe) (hf : ∃ vs, oe.data = .fields vs) (hK : X.K = K := by rfl) : CallR (X.suite a ((a, oe) :: pn)) (.builtin "isinstance") (rIsX K a cls d) := by
  subst hK
  intro pins s σ H xs us Q I r h
  obtain ⟨D, C, b, rfl, rfl, c, rfl, e, q⟩ := h
  exact call_isE c hz hf pins s σ H _ us Q I r ⟨_, _, b, rfl, fun u z => z, e, q⟩
/-! ### unpacking a list -/
section
variable {X : Cx} {K : PySem.W.Frag} {pos : Pos}
theorem pg_seqK {es : List Expr} {k : Nat} {t : TGs} {n : Nat} (h : PGs X es t) (hc : X.calm = true := by rfl) (hK : X.K = K := by rfl)
    (hn : (assignEach es X.env).length = n := by rfl) (hst : (assignEach es X.env).findIdx? (·.1) = none := by rfl) : PG X (.Tuple es k pos) (gLst K n t) := hK ▸ pg_lst hc h hn hst
end
theorem SqL.cast {K : PySem.W.Frag} {H : Hp} {a : Addr} {xs ys : List V} (h : SqL K H a xs) (e : xs = ys) : SqL K H a ys := e ▸ h
section
variable {α : Type} [Inhabited α] {f : α → V}
theorem unp2 {xs : List α} (h : xs.length = 2) : xs.map f = [f (itD xs 0), f (itD xs 1)] := by
  obtain ⟨a, b, rfl⟩ := len2 h
  rfl
theorem unp3 {xs : List α} (h : xs.length = 3) : xs.map f = [f (itD xs 0), f (itD xs 1), f (itD xs 2)] := by
  obtain ⟨a, b, c, rfl⟩ := len3 h
  rfl
theorem unp4 {xs : List α} (h : xs.length = 4) : xs.map f = [f (itD xs 0), f (itD xs 1), f (itD xs 2), f (itD xs 3)] := by
  obtain ⟨a, b, c, d, rfl⟩ := len4 h
  rfl
theorem unp6 {xs : List α} (h : xs.length = 6) : xs.map f = [f (itD xs 0), f (itD xs 1), f (itD xs 2), f (itD xs 3), f (itD xs 4), f (itD xs 5)] := by
  obtain ⟨a, b, c, d, e, g, rfl⟩ := len6 h
  rfl
theorem unp8 {xs : List α} (h : xs.length = 8) : xs.map f = [f (itD xs 0), f (itD xs 1), f (itD xs 2), f (itD xs 3), f (itD xs 4), f (itD xs 5), f (itD xs 6), f (itD xs 7)] := by
  obtain ⟨a, r, rfl, h2⟩ := len_s h
  obtain ⟨b, c, d, e, g, i, j, rfl⟩ := len7 h2
  rfl
end
/-! ### classes -/
section
variable {P : Program} {w : World} {K : PySem.W.Frag} {mg : Str → Option Value} {base : Heap}
structure MethX (K : PySem.W.Frag) (C : Addr) (q m : Str) (st : Stmt) (ps : List Str) (pats : List Pat) : Prop where
  ex : ∃ (f : Addr) (fd : FuncData) (dvs : List V) (kws : List (Str × V)), FunD K m q (defArgs st) (defBody st) (defScope st) dvs kws f fd ∧ Meth K C m f ∧ ∀ p ∈ pats, Bnd1 K fd ps p
structure InitX (K : PySem.W.Frag) (mg : Str → Option Value) (C : Addr) (cn q : Str) (st : Stmt) (ps : List Str) (pats : List Pat) : Prop where
  ex : ∃ (f : Addr) (fd : FuncData) (dvs : List V) (kws : List (Str × V)), FunD K "__init__" q (defArgs st) (defBody st) (defScope st) dvs kws f fd ∧ Mk K C f ∧ mg cn = some (.ref C) ∧ ∀ p ∈ pats, Bnd1 K fd ps p
structure PropX (K : PySem.W.Frag) (C : Addr) (q m : Str) (st : Stmt) (ps : List Str) (pats : List Pat) : Prop where
  ex : ∃ (r f : Addr) (fd : FuncData) (dvs : List V) (kws : List (Str × V)), FunD K m q (defArgs st) (defBody st) (defScope st) dvs kws f fd ∧ PropOf K C m r f ∧ Binds K fd ps []
structure MetX (P : Program) (w : World) (K : PySem.W.Frag) (mg : Str → Option Value) (base : Heap) (k : Nat) (C : Addr) (m : Str) (sp : Sp) (pats : List Pat) : Prop where
  ex : ∃ (f : Addr) (fd : FuncData) (ps : List Str), Cls K C ∧ Meth K C m f ∧ FnG P w K mg base (L2.CX P w) k f fd ps sp ∧ ∀ p ∈ pats, Bnd1 K fd ps p
structure PropY (P : Program) (w : World) (K : PySem.W.Frag) (mg : Str → Option Value) (base : Heap) (k : Nat) (C : Addr) (m : Str) (sp : Sp) (pats : List Pat) : Prop where
  ex : ∃ (q f : Addr) (fd : FuncData) (ps : List Str), Cls K C ∧ PropOf K C m q f ∧ FnG P w K mg base (L2.CX P w) k f fd ps sp ∧ Binds K fd ps []
structure MakX (P : Program) (w : World) (K : PySem.W.Frag) (mg : Str → Option Value) (base : Heap) (k : Nat) (cn : Str) (C : Addr) (sp : Sp) (pats : List Pat) : Prop where
  ex : ∃ (f : Addr) (fd : FuncData) (ps : List Str), Mk K C f ∧ FnG P w K mg base (L2.CX P w) k f fd ps sp ∧ mg cn = some (.ref C) ∧ ∀ p ∈ pats, Bnd1 K fd ps p
theorem MethX.ok {C : Addr} {q m : Str} {st : Stmt} {N ps : List Str} {pats : List Pat} {k : Nat} {sp : Sp} (D : MethX K C q m st ps pats) (c : Cls K C) (S : FnScope N ps (defScope st)) (len : ∀ vs H Q E, sp vs H Q E → vs.length = ps.length)
    (hbody : BodyX P w K mg base q st N k sp) : MetX P w K mg base (k + 1) C m sp pats := by
  obtain ⟨f, fd, dvs, kws, F, me, b⟩ := D.ex
  exact ⟨f, fd, ps, c, me, FnG.body F S len (fun cdv A outer s H vs Q E hr h => hbody f cdv A outer s H vs Q E hr h), b⟩
theorem PropX.ok {C : Addr} {q m : Str} {st : Stmt} {N ps : List Str} {pats : List Pat} {k : Nat} {sp : Sp} (D : PropX K C q m st ps pats) (c : Cls K C) (S : FnScope N ps (defScope st)) (len : ∀ vs H Q E, sp vs H Q E → vs.length = ps.length)
    (hbody : BodyX P w K mg base q st N k sp) : PropY P w K mg base (k + 1) C m sp pats := by
  obtain ⟨r, f, fd, dvs, kws, F, me, b⟩ := D.ex
  exact ⟨r, f, fd, ps, c, me, FnG.body F S len (fun cdv A outer s H vs Q E hr h => hbody f cdv A outer s H vs Q E hr h), b⟩
theorem InitX.ok {C : Addr} {cn q : Str} {st : Stmt} {N ps : List Str} {pats : List Pat} {k : Nat} {sp : Sp} (D : InitX K mg C cn q st ps pats) (S : FnScope N ps (defScope st)) (len : ∀ vs H Q E, sp vs H Q E → vs.length = ps.length)
    (hbody : BodyX P w K mg base q st N k sp) : MakX P w K mg base (k + 1) cn C sp pats := by
  obtain ⟨f, fd, dvs, kws, F, me, hm, b⟩ := D.ex
  exact ⟨f, fd, ps, me, FnG.body F S len (fun cdv A outer s H vs Q E hr h => hbody f cdv A outer s H vs Q E hr h), hm, b⟩
end
theorem cW_callN {α β : Type} {m : Rx β} {f : β → Rx α} {K : α → Prop} {E : Nat → Prop} {K2 : β → Prop} {E2 : Nat → Prop} (h : cW ((noEr m).bind f) K E) (ho : ∀ v, cW (f v) K E → K2 v) (_ : True) : cW m K2 E2 := by
  cases m with
  | ok a => exact ho a h
  | er e => exact h.elim
  | bad => exact h.elim
section
variable {X : Cx} {k j n : Nat} {f C : Addr} {fd : FuncData} {ps ks : List Str} {g : List V → List V → List V} {sp : Sp} {x m : Str} {pos p apos : Pos} {e o : Expr} {es : List Expr} {kws : List Keyword} {ta : TE} {t tk : TA} {W : WX}
theorem run_mkX {pins : List (Addr × Obj)} {σ : L2.St} {H : Hp} {s : Shared} {Q : VK} {us ws : List Value} {vs zs : List V} (M : Mk X.K C f) (F : FnG X.prog X.w X.K X.mg X.base (L2.CX X.prog X.w) k f fd ps sp) (hr : RoomG (k + 1) X.A) (hb : Bnd X.K fd ps n ks g) (tkW : Takes X W)
    (I : Inv X pins σ H s) (r : Vals vs us) (rz : Vals zs ws) (l1 : vs.length + 1 = n) (l2 : zs.length = ks.length)
    (h : ∀ x dx, H x = none → H dx = none → dx ≠ x → sp (g (.ref x :: vs) zs) (upd (upd H dx (.own x)) x (.ins C dx [])) (fun v H2 => v = .non ∧ Q (.ref x) H2) (WE W σ)) :
    wpAny (model X.prog X.w) X.A (call (.ref C) us (ks.zip ws)) (EP X pins σ Q) X.xe s := by
  have hq := h (s.heap.objs.size + 1) s.heap.objs.size (I.hok.fresh (Nat.le_succ _)) (I.hok.fresh (Nat.le_refl _)) (Nat.ne_of_lt (Nat.lt_succ_self _))
  have I2 := Inv.made (C := C) I
  have r1 : Vals (V.ref (s.heap.objs.size + 1) :: vs) (Value.ref (s.heap.objs.size + 1) :: us) := .cons rfl r
  obtain ⟨vv, b, r2⟩ := hb.to _ (Value.ref (s.heap.objs.size + 1) :: us) ws (V.ref (s.heap.objs.size + 1) :: vs) zs I2.kIn (by rw [List.length_cons, l1]) l2 r1 rz
  refine wpAny_call (make_map (f := f) I.kIn M.makes M.init (beq_iff_eq.mp M.fn) (codeAny_mono (F.run _ X.stack _ _ ⟨Value.ref (s.heap.objs.size + 1) :: us, ks.zip ws⟩ vv _ _ (WE W σ) (hr.made C us (ks.zip ws))
    (I2.env0.make C us (ks.zip ws)) b r2 hq) fun r s' hq' => ?_))
  cases r with
  | error e => exact passAt tkW σ pins _ _ e s' I2 hq'
  | ok fl =>
    cases fl with
    | ret u =>
      obtain ⟨v, H', I3, rv, ev, q3⟩ := I2.after hq'
      subst ev
      exact ⟨rv, ⟨V.ref (s.heap.objs.size + 1), H', I3, rfl, q3⟩⟩
    | next => exact False.elim hq'
    | brk => exact False.elim hq'
    | cont => exact False.elim hq'
/-- C(e, .., k = v, ..) -/
def tMakeX (C : Addr) (n m : Nat) (sp : Sp) (g : List V → List V → List V) (W : WX) (t tk : TA) : TE := fun σ H Q => t σ H fun vs H1 => tk σ H1 fun zs H2 => vs.length + 1 = n ∧ zs.length = m ∧ ∀ x dx, H2 x = none → H2 dx = none → dx ≠ x →
  sp (g (.ref x :: vs) zs) (upd (upd H2 dx (.own x)) x (.ins C dx [])) (fun v H3 => v = .non ∧ Q (.ref x) H3) (WE W σ)
theorem vx_makeX {pats : List Pat} (c : MakX X.prog X.w X.K X.mg X.base k x C sp pats) (pt : Pat) (hpt : pt ∈ pats) (hr : RoomG j X.A) (hk : k + 1 ≤ j) (tkW : Takes X W) (hg : Gl X x) (ha : PA X (e :: es) t) (hkw : PK X kws tk)
    (hall : (backToKw pos (keywordEach kws X.env)).all (·.1.isSome) = true := by rfl) (hks : (backToKw pos (keywordEach kws X.env)).filterMap (·.1) = pt.2.1 := by rfl) (hdb : (x == ("__debug__" : Str)) = false := by decide)
    (he : starEach (e :: es) X.env = (false, eval e X.env) :: starEach es X.env := by rfl) (hpl : ((backTo pos (starEach (e :: es) X.env)).any (·.1) || (backToKw pos (keywordEach kws X.env)).any (·.1.isNone)) = false := by rfl) :
    PE X (.Call (.Name x p) (e :: es) kws pos) (tMakeX C pt.1 pt.2.1.length sp pt.2.2 W t tk) := by
  obtain ⟨f, fd, ps, M, F, hm, b⟩ := c.ex
  refine ⟨fun pins s σ H Q I h => ?_⟩
  refine wpAny_Call_Name_kw (ld_glob I hg hm ?_ hdb)
  refine PySem.W.callWith_KW (h₀ := X.base) I.ok.mod.kin M.kp hall (thn (ha.run pos pins s σ H _ I h) fun us s1 ⟨vs, H1, I1, r, q⟩ => ?_) hpl he
  refine thn (hkw.run pos pins s1 σ H1 _ I1 q) fun ws s2 ⟨zs, H2, I2, rz, l1, l2, q2⟩ => ⟨I2.kIn, ?_⟩
  rw [hks]
  exact run_mkX M F (hr.low hk) (b pt hpt) tkW I2 r rz l1 l2 q2
theorem vx_makeX0 {pats : List Pat} (c : MakX X.prog X.w X.K X.mg X.base k x C sp pats) (pt : Pat) (hpt : pt ∈ pats) (hr : RoomG j X.A) (hk : k + 1 ≤ j) (tkW : Takes X W) (hg : Gl X x) (hks : pt.2.1 = [] := by rfl)
    (hdb : (x == ("__debug__" : Str)) = false := by decide) : PE X (.Call (.Name x p) [] [] pos) (tMakeX C pt.1 pt.2.1.length sp pt.2.2 W tNil tNil) := by
  obtain ⟨f, fd, ps, M, F, hm, b⟩ := c.ex
  refine ⟨fun pins s σ H Q I h => ?_⟩
  refine wpAny_Call_Name_kw (ld_glob I hg hm ?_ hdb)
  obtain ⟨l1, l2, q2⟩ := h
  have hz := run_mkX (us := []) (ws := []) M F (hr.low hk) (b pt hpt) tkW I .nil .nil l1 l2 q2
  rw [hks] at hz
  exact PySem.W.callWith_K0 I.kIn M.kp hz
/-- o.m(e, .., k = v, ..) -/
def tMethX (C : Addr) (m : Str) (n mm : Nat) (sp : Sp) (g : List V → List V → List V) (W : WX) (ta : TE) (t tk : TA) : TE := fun σ H Q => ta σ H fun x H1 => ∃ a dx fs, x = .ref a ∧ H1 a = some (.ins C dx fs) ∧ fs.lookup m = none ∧
  t σ H1 fun vs H2 => tk σ H2 fun zs H3 => (x :: vs).length = n ∧ zs.length = mm ∧ sp (g (x :: vs) zs) H3 Q (WE W σ)
theorem vx_methX {pats : List Pat} {pl : Sem Bool} (c : MetX X.prog X.w X.K X.mg X.base k C m sp pats) (pt : Pat) (hpt : pt ∈ pats) (hr : RoomG j X.A) (hk : k ≤ j) (tkW : Takes X W) (he : PE X o ta) (ha : PA X (e :: es) t) (hkw : PK X kws tk)
    (hall : (backToKw pos (keywordEach kws X.env)).all (·.1.isSome) = true := by rfl) (hks : (backToKw pos (keywordEach kws X.env)).filterMap (·.1) = pt.2.1 := by rfl)
    (hst : starEach (e :: es) X.env = (false, eval e X.env) :: starEach es X.env := by rfl) (hpl : ((backTo pos (starEach (e :: es) X.env)).any (·.1) || (backToKw pos (keywordEach kws X.env)).any (·.1.isNone)) = false := by rfl)
    (ht : eval (.Call (.Attribute o m apos) (e :: es) kws pos) X.env = (do
      let ov ← eval o X.env
      standAt apos.atName
      let (f, first) ← holding [ov] (getMethod ov m pl)
      callWith pos f first (backTo pos (starEach (e :: es) X.env)) (backToKw pos (keywordEach kws X.env))) := by rfl) :
    PE X (.Call (.Attribute o m apos) (e :: es) kws pos) (tMethX C m pt.1 pt.2.1.length sp pt.2.2 W ta t tk) := by
  obtain ⟨f, fd, ps, hc, hm, F, b⟩ := c.ex
  refine ⟨fun pins s σ H Q I h => ?_⟩
  refine PySem.W.methodCall_KW (pl := pl) (thn (he.run pins s σ H _ I h) fun u s1 ⟨x, H1, I1, rx, a, dx, fs, ex, ea, l, q⟩ => ?_) ht
  subst ex
  obtain rfl : u = Value.ref a := rx
  refine getmeth_ok I1 ea hc hm l ?_
  refine PySem.W.callWith_KW (first := [.ref a]) (h₀ := X.base) I.ok.mod.kin hm.kp hall (thn (ha.run pos pins s1 σ H1 _ I1 q) fun us s2 ⟨vs, H2, I2, r, q2⟩ => ?_) hpl hst
  refine thn (hkw.run pos pins s2 σ H2 _ I2 q2) fun ws s3 ⟨zs, H3, I3, rz, l1, l2, q3⟩ => ⟨I3.kIn, ?_⟩
  rw [hks]
  exact run_X (us := .ref a :: us) (vs := .ref a :: vs) F (hr.low hk) (b pt hpt) tkW I3 (.cons rfl r) rz l1 l2 q3
theorem vx_methX0 {pats : List Pat} {pl : Sem Bool} (c : MetX X.prog X.w X.K X.mg X.base k C m sp pats) (pt : Pat) (hpt : pt ∈ pats) (hr : RoomG j X.A) (hk : k ≤ j) (tkW : Takes X W) (he : PE X o ta) (hks : pt.2.1 = [] := by rfl)
    (ht : eval (.Call (.Attribute o m apos) [] [] pos) X.env = (do
      let ov ← eval o X.env
      standAt apos.atName
      let (f, first) ← holding [ov] (getMethod ov m pl)
      callWith pos f first (backTo pos (starEach [] X.env)) (backToKw pos (keywordEach [] X.env))) := by rfl) :
    PE X (.Call (.Attribute o m apos) [] [] pos) (tMethX C m pt.1 pt.2.1.length sp pt.2.2 W ta tNil tNil) := by
  obtain ⟨f, fd, ps, hc, hm, F, b⟩ := c.ex
  refine ⟨fun pins s σ H Q I h => ?_⟩
  refine PySem.W.methodCall_KW (pl := pl) (thn (he.run pins s σ H _ I h) fun u s1 ⟨x, H1, I1, rx, a, dx, fs, ex, ea, l, q⟩ => ?_) ht
  subst ex
  obtain rfl : u = Value.ref a := rx
  refine getmeth_ok I1 ea hc hm l ?_
  obtain ⟨l1, l2, q3⟩ := q
  have hz := run_X (us := [.ref a]) (vs := [.ref a]) (ws := []) F (hr.low hk) (b pt hpt) tkW I1 (.cons rfl .nil) .nil l1 l2 q3
  rw [hks] at hz
  exact PySem.W.callWith_K0 (first := [.ref a]) I1.kIn hm.kp hz
theorem vx_propX {pats : List Pat} (c : PropY X.prog X.w X.K X.mg X.base k C m sp pats) (hr : RoomG j X.A) (hk : k + 1 ≤ j) (he : PE X o ta) (hab : attributeBase o m X.env (eval o X.env) = eval o X.env := by rfl) : PE X (.Attribute o m pos) (tProp C sp [] E0 ta) := by
  obtain ⟨q, f, fd, ps, cls, prop, F, bind⟩ := c.ex
  constructor
  intro pins s σ H Q I h
  refine attr_of hab (thn (he.run pins s σ H _ I h) ?_)
  rintro u s1 ⟨x, H1, I1, rx, a, dx, fs, rfl, ea, prom⟩
  cases rx
  obtain ⟨mA, O, _⟩ := ins_get I1.hok ea
  obtain ⟨od, J, _⟩ := O.look
  obtain ⟨rest, rec_⟩ := prop.rec_
  have short : [Value.ref a].length = ps.length := (F.len _ _ _ _ prom).symm ▸ rfl
  have isCls : (PySem.W.clsIn X.K C).isSome = true := by
    obtain ⟨cd, e, _⟩ := PySem.W.any_some cls.hd
    rw [e]
    rfl
  refine PySem.W.get_bind I1.kIn J (PySem.W.plainGet_of (cls.get m)).1 (PySem.W.findObj_data isCls prop.at_ prop.get prop.tak) (PySem.W.plainGet_of (cls.get m)).2 (wpAny_call (PySem.W.prop_get (s := { s1 with toks := s1.toks + 1 }) I1.kIn rec_ ?_))
  have I2 := I1.tok (s1.toks + 1)
  refine codeAny_mono (F.run X.A.in1 X.stack _ H1 ⟨[.ref a], []⟩ [.ref a] [.ref a] Q E0 (hr.low hk).one I2.env0.in1 (by simpa using bind _ [.ref a] I2.kIn (by simpa using short)) (.cons rfl .nil) prom) ?_
  intro r s2 out
  cases r with
  | error er => exact (passL (X := X.nox) pins σ H1 _ er s2 (I2.wish _) out).elim
  | ok flow =>
    cases flow with
    | ret v =>
      obtain ⟨y, H2, I3, ry, qy⟩ := I2.after out
      have given := PySem.W.handedOut_of (handed_of ry)
      show wpAny _ _ (handedOut v) _ _ s2
      rw [given]
      exact wpAny_pure ⟨y, H2, I3, ry, qy⟩
    | next => exact out.elim
    | brk => exact out.elim
    | cont => exact out.elim
end
theorem Sep.news {M : List Addr} {H0 G0 G H H' : Hp} {O : List Addr} (S : Sep M H0 G0 G H O) (e : Same H H') (L : List Addr) (hL : ∀ a ∈ L, H a = none ∧ H' a ≠ none ∧ H0 a = none) : Sep M H0 G0 G H' (L ++ O) := by
  have S2 := S.same e
  refine ⟨S2.base, S2.pm, S2.sG, S2.g0, S2.gn, fun a ha => ?_⟩
  rcases List.mem_append.mp ha with h | h
  · obtain ⟨h1, h2, h3⟩ := hL a h
    exact ⟨S.gfree h1, h2, .inr h3⟩
  · exact S2.ow a h
theorem vv_chain {r r' : R2} {ta tb tc : TE} {σ : L2.St} {H : Hp} {x y z : V} {a b : Bool} (ha : Val ta σ H x) (hb : Val tb σ H y) (hc : Val tc σ H z) (h1 : ∀ Q : VK, Q (.bl a) H → r x y H Q) (h2 : ∀ Q : VK, Q (.bl b) H → r' y z H Q) :
    Val (tChain r r' ta tb tc) σ H (.bl (a && b)) := fun Q q => ha _ (hb _ (h1 _ ⟨a, rfl, by
  cases a with
  | true =>
    rw [if_pos rfl]
    exact hc _ (h2 _ q)
  | false =>
    rw [if_neg Bool.false_ne_true]
    exact q⟩))
/-! ### constants that are tuples, lists backwards, zip -/
theorem inV_ints (x : Int) : ∀ xs : List Int, inV (V.int x) (xs.map V.int) = decide (x ∈ xs)
  | [] => by simp [inV]
  | y :: r => by
    have h := inV_ints x r
    unfold inV at h ⊢
    rw [List.map_cons, List.any_cons, h]
    by_cases c : x = y
    · subst c
      simp [eqV]
    · simp [eqV, c, Ne.symm c]
theorem flat_ints : ∀ xs : List Int, (xs.map V.int).all flatV = true
  | [] => rfl
  | _ :: r => flat_ints r
def rInI (K : PySem.W.Frag) : R2 := fun x y H Q => ∃ (i : Int) (p : Addr) (xs : List Int), x = .int i ∧ y = .ref p ∧ (SqL K H p (xs.map V.int) ∨ SqT K H p (xs.map V.int)) ∧ Q (.bl (decide (i ∈ xs))) H
def rNotInI (K : PySem.W.Frag) : R2 := fun x y H Q => ∃ (i : Int) (p : Addr) (xs : List Int), x = .int i ∧ y = .ref p ∧ (SqL K H p (xs.map V.int) ∨ SqT K H p (xs.map V.int)) ∧ Q (.bl (!decide (i ∈ xs))) H
theorem op_inI {X : Cx} {K : PySem.W.Frag} (hK : X.K = K := by rfl) : OpR X (compareOp .In) (rInI K) := by
  subst hK
  intro pins s σ H x y v u Q I rx ry h
  obtain ⟨i, p, xs, rfl, rfl, hs, q⟩ := h
  refine op_in_seq pins s σ H _ _ v u Q I rx ry ⟨p, _, rfl, hs, rfl, flat_ints xs, ?_⟩
  rw [if_neg Bool.false_ne_true, inV_ints]
  exact q
theorem op_notInI {X : Cx} {K : PySem.W.Frag} (hK : X.K = K := by rfl) : OpR X (compareOp .NotIn) (rNotInI K) := by
  subst hK
  intro pins s σ H x y v u Q I rx ry h
  obtain ⟨i, p, xs, rfl, rfl, hs, q⟩ := h
  refine op_notIn_seq pins s σ H _ _ v u Q I rx ry ⟨p, _, rfl, hs, rfl, flat_ints xs, ?_⟩
  rw [if_pos rfl, inV_ints]
  exact q
theorem pe_revLK {X : Cx} {K : PySem.W.Frag} {e : Expr} {te : TE} {k : Nat} {p1 p2 p3 pos : Pos} (he : PE X e te) (hK : X.K = K := by rfl) : PE X (.Subscript e (.Slice none none (some (.UnaryOp .USub (.Constant (.int 1) k p1) p2)) p3) pos) (tRevL K te) := hK ▸ pe_revL he
theorem rev_map {α : Type} {f : α → V} {xs : List α} {H : Hp} {p : Addr} (h : H p = some (.lst (xs.map f).reverse)) : H p = some (.lst (xs.reverse.map f)) := by
  rw [List.map_reverse]
  exact h
theorem RpAll.rev {G : Hp} : ∀ {vs : List V} {ds : List PyData}, RpAll G vs ds → RpAll G vs.reverse ds.reverse
  | _, _, .nil => .nil
  | _, _, .cons h t => by
    rw [List.reverse_cons, List.reverse_cons]
    exact (RpAll.rev t).append (.one h)
theorem rev_all {α : Type} {f : α → PyData} {xs : List α} {G : Hp} {vs : List V} (a : RpAll G vs (xs.map f)) : RpAll G vs.reverse (xs.reverse.map f) := by
  rw [List.map_reverse]
  exact a.rev
theorem pi_zipK {X : Cx} {K : PySem.W.Frag} {e e2 : Expr} {ta : TA} {p pos tpos : Pos} {elts : List Expr} {kk : Nat} (hg : Gl X "zip") (hm : X.mg "zip" = none) (ha : PA X [e, e2] ta) (hK : X.K = K := by rfl)
    (hs : starEach [e, e2] X.env = (false, eval e X.env) :: starEach [e2] X.env := by rfl) (hpl : (backTo pos (starEach [e2] X.env)).any (·.1) = false := by rfl) :
    PI X (.Tuple elts kk tpos) (.Call (.Name "zip" p) [e, e2] [] pos) (RZ.iZipA K ta) := hK ▸ RZ.pi_zipA hg hm ha hs hpl
/-- a comprehension over zip of two lists of one length -/
theorem lc_zipL {K : PySem.W.Frag} {a b : Addr} {xs ys : List V} {g : TG} {tt : TT} {te : TE} {vs : List Nat} {σ : L2.St} {H1 : Hp} {D : Addr} {Qd : Hp → Prop} (hl : xs.length = ys.length) (Pv : Nat → Hp → Prop) (h0 : Pv 0 (upd H1 D (.lst []))) (hq : ∀ i H, i ≤ xs.length → Pv i H → SqL K H a xs ∧ SqL K H b ys)
    (hs : ∀ (i : Nat) (x y : V) (T : Addr) (H : Hp), xs[i]? = some x → ys[i]? = some y → H T = none → Pv i H → g (.ref T) (wipe σ vs) (upd H T (.tup [x, y])) fun σ2 H2 => wipe σ2 vs = wipe σ vs ∧ tt σ2 H2 fun b H3 =>
      if b = true then te σ2 H3 fun y H4 => ∃ acc, H4 D = some (.lst acc) ∧ acc.length < sizeLine ∧ Pv (i + 1) (upd H4 D (.lst (acc ++ [y]))) else Pv (i + 1) H3) (hd : ∀ H, Pv xs.length H → Qd H) :
    ∃ W : Nat → Nat → Hp → Prop, (∃ m, W 0 m (upd H1 D (.lst []))) ∧ ∀ i m H, W i m H →
      ((Itz K a b).stop i H ∧ Qd H) ∨ ((Itz K a b).go i H ∧ ∃ Nx : Hp → Prop, (∀ H', Nx H' → ∃ m', m' < m ∧ W (i + 1) m' H') ∧ ∀ x H', (Itz K a b).yld i H x H' → g x (wipe σ vs) H' fun σ2 H2 => wipe σ2 vs = wipe σ vs ∧ tt σ2 H2 fun b H3 =>
        if b = true then te σ2 H3 fun y H4 => ∃ acc, H4 D = some (.lst acc) ∧ acc.length < sizeLine ∧ Nx (upd H4 D (.lst (acc ++ [y]))) else Nx H3) := by
  refine ⟨fun i m H => m = xs.length - i ∧ i ≤ xs.length ∧ Pv i H, ⟨xs.length, by simp, Nat.zero_le _, h0⟩, ?_⟩
  rintro i m H ⟨rfl, hi, p⟩
  obtain ⟨qx, qy⟩ := hq i H hi p
  by_cases hlt : i < xs.length
  · have hlt2 : i < ys.length := by omega
    refine .inr ⟨⟨xs, ys, xs[i], ys[i], qx, qy, List.getElem?_eq_getElem hlt, List.getElem?_eq_getElem hlt2⟩, Pv (i + 1), fun H' p' => ⟨xs.length - (i + 1), by omega, rfl, hlt, p'⟩, fun v H' y => ?_⟩
    obtain ⟨T, x', y', rfl, hT, rfl, f1, f2⟩ := y
    exact hs i x' y' T H (f1 xs qx) (f2 ys qy) hT p
  · have e : i = xs.length := by omega
    subst e
    exact .inl ⟨⟨xs, ys, qx, qy, Or.inl (Nat.le_refl _)⟩, hd H p⟩
theorem zip_get {α β : Type} {xs : List α} {ys : List β} {i : Nat} {x : α} {y : β} (h1 : xs[i]? = some x) (h2 : ys[i]? = some y) : (xs.zip ys)[i]? = some (x, y) := by
  rw [List.getElem?_zip_eq_some]
  exact ⟨h1, h2⟩
theorem zip_len {α β : Type} {xs : List α} {ys : List β} {n : Nat} (h : xs.length = ys.length) (e : n = xs.length) : n = (xs.zip ys).length := by
  rw [List.length_zip, ← h, Nat.min_self]
  exact e
theorem zlen {α β : Type} {vs ws : List V} {xs : List α} {ys : List β} (a : vs.length = xs.length) (b : ws.length = ys.length) (h : xs.length = ys.length) : vs.length = ws.length := by rw [a, b, h]
section
variable {t : TT} {ta tb : TE} {σ : L2.St} {H : Hp}
theorem vv_ifP {p : Prop} [Decidable p] {a b : Int} (ht : Ans t σ H (decide p)) (hx : p → Val ta σ H (.int a)) (hy : ¬ p → Val tb σ H (.int b)) : Val (tIf t ta tb) σ H (.int (if p then a else b)) := by
  by_cases h : p
  · have := vv_if (p := p) (a := a) (b := a) ht (hx h) (tb := ta) (hx h)
    intro Q q
    refine ht _ ?_
    rw [decide_eq_true h, if_pos rfl]
    rw [if_pos h] at q
    exact hx h _ q
  · intro Q q
    refine ht _ ?_
    rw [decide_eq_false h, if_neg Bool.false_ne_true]
    rw [if_neg h] at q
    exact hy h _ q
theorem vv_ifQ {c : Bool} {a b : Int} (ht : Ans t σ H c) (hx : c = true → Val ta σ H (.int a)) (hy : c = false → Val tb σ H (.int b)) : Val (tIf t ta tb) σ H (.int (if c = true then a else b)) := by
  intro Q q
  refine ht _ ?_
  cases c with
  | true =>
    rw [if_pos rfl]
    rw [if_pos rfl] at q
    exact hx rfl _ q
  | false =>
    rw [if_neg Bool.false_ne_true]
    rw [if_neg Bool.false_ne_true] at q
    exact hy rfl _ q
end
theorem kit_mk0 {K : PySem.W.Frag} {S C : Addr} (h1 : (Value.ref S == Value.ref C) = false) (h2 : PySem.W.isClsIn K C = true) (h3 : PySem.W.typeIn K (.ref C) = some (.type "type")) (h4 : PySem.W.subIn K (.ref S) (.ref C) = some false) :
    PySem.W.kitOne K (.ref S) (.ref C) = some false := by
  unfold PySem.W.isClsIn at h2
  unfold PySem.W.kitOne
  rw [if_neg (by rw [h1]; exact Bool.false_ne_true)]
  unfold PySem.W.kitCls
  simp only [h2, h3, h4, beq_self_eq_true, Bool.and_self, if_true]
theorem vv_call2 {ta tb : TE} {σ : L2.St} {H : Hp} {x y z : V} {r : List V → Hp → VK → Prop} (ha : Val ta σ H x) (hb : Val tb σ H y) (hr : ∀ Q : VK, Q z H → r [x, y] H Q) : Val (tCB r (tCons ta (tCons tb tNil))) σ H z := fun Q q => ha _ (hb _ (hr Q q))
/-! ### lists of data that the caller owns; values that are a truth value or a number -/
theorem Sep.stepnew {M : List Addr} {H0 G0 G H H' : Hp} {O : List Addr} {p : Addr} {o : HO} (S : Sep M H0 G0 G H O) {G' : Hp} (e : Same H H') (eG : Same G G') (sG : Same G' H') (hn : ∀ b, H b ≠ none → G b = none → G' b = none) (_n : H p = none) (h : H' p = some o) (g : G' p = none) (hm : H0 p = none) : Sep M H0 G0 G' H' (p :: O) := by
  have S2 := S.step e eG sG hn
  refine ⟨S2.base, S2.pm, S2.sG, S2.g0, S2.gn, fun a ha => ?_⟩
  rcases List.mem_cons.mp ha with rfl | ha
  · exact ⟨g, (fun z => by rw [z] at h; cases h), .inr hm⟩
  · exact S2.ow a ha
inductive Bi where
  | b (x : Bool)
  | n (i : Int)
deriving DecidableEq
def biV : Bi → V
  | .b x => .bl x
  | .n i => .int i
def Bi.el {α : Type} (v : Bi) (f : Bool → α) (g : Int → α) : α :=
  match v with
  | .b x => f x
  | .n i => g i
theorem cW_elb {α : Type} {x : Bool} {f : Bool → Rx α} {g : Int → Rx α} {K : α → Prop} {E : Nat → Prop} (h : cW (Bi.el (.b x) f g) K E) : cW (f x) K E := h
theorem cW_eln {α : Type} {x : Int} {f : Bool → Rx α} {g : Int → Rx α} {K : α → Prop} {E : Nat → Prop} (h : cW (Bi.el (.n x) f g) K E) : cW (g x) K E := h
theorem rp_tup4 {α β γ δ : Type} {f : α → PyData} {g : β → PyData} {h : γ → PyData} {i : δ → PyData} {H : Hp} {v : V} {x : α × β × γ × δ} (r : Rp H v (encT4 f g h i x)) : ∃ a v1 v2 v3 v4, v = .ref a ∧ H a = some (.tup [v1, v2, v3, v4]) ∧ Rp H v1 (f x.1) ∧ Rp H v2 (g x.2.1) ∧ Rp H v3 (h x.2.2.1) ∧ Rp H v4 (i x.2.2.2) := by
  unfold encT4 at r
  cases r with
  | tup h1 h2 =>
    cases h2 with
    | cons a b =>
      cases b with
      | cons b c =>
        cases c with
        | cons c d =>
          cases d with
          | cons d e =>
            cases e
            exact ⟨_, _, _, _, _, rfl, h1, a, b, c, d⟩
theorem rp_mk4 {α β γ δ : Type} {f : α → PyData} {g : β → PyData} {h : γ → PyData} {i : δ → PyData} {H : Hp} {a : Addr} {v1 v2 v3 v4 : V} {x : α} {y : β} {z : γ} {w : δ} (h1 : H a = some (.tup [v1, v2, v3, v4])) (r1 : Rp H v1 (f x)) (r2 : Rp H v2 (g y)) (r3 : Rp H v3 (h z)) (r4 : Rp H v4 (i w)) : Rp H (.ref a) (encT4 f g h i (x, y, z, w)) := .tup h1 (.cons r1 (.cons r2 (.cons r3 (.cons r4 .nil))))
theorem Sep.b0M {M : List Addr} {H0 G0 G H : Hp} {O : List Addr} (S : Sep M H0 G0 G H O) (h : ∀ a ∈ M, H a = H0 a) : Same H0 H := fun b o e => by
  by_cases z : b ∈ M
  · rw [h b z]
    exact e
  · exact S.base b o e z
section
variable {X : Cx} {k j n : Nat} {f C : Addr} {fd : FuncData} {ps ks : List Str} {g : List V → List V → List V} {sp : Sp} {x m : Str} {pos p apos : Pos} {e o : Expr} {es : List Expr} {kws : List Keyword} {ta : TE} {t tk : TA} {W : WX}
/-- keywords alone -/
theorem vx_makeXK {pats : List Pat} (c : MakX X.prog X.w X.K X.mg X.base k x C sp pats) (pt : Pat) (hpt : pt ∈ pats) (hr : RoomG j X.A) (hk : k + 1 ≤ j) (tkW : Takes X W) (hg : Gl X x) (hkw : PK X kws tk)
    (hall : (backToKw pos (keywordEach kws X.env)).all (·.1.isSome) = true := by rfl) (hks : (backToKw pos (keywordEach kws X.env)).filterMap (·.1) = pt.2.1 := by rfl) (hdb : (x == ("__debug__" : Str)) = false := by decide)
    (hpl : ((backTo pos (starEach [] X.env)).any (·.1) || (backToKw pos (keywordEach kws X.env)).any (·.1.isNone)) = false := by rfl) :
    PE X (.Call (.Name x p) [] kws pos) (tMakeX C pt.1 pt.2.1.length sp pt.2.2 W tNil tk) := by
  obtain ⟨f, fd, ps, M, F, hm, b⟩ := c.ex
  refine ⟨fun pins s σ H Q I h => ?_⟩
  refine wpAny_Call_Name_kw (ld_glob I hg hm ?_ hdb)
  refine PySem.W.callWith_KW0 (h₀ := X.base) I.ok.mod.kin M.kp hall ?_ hpl
  refine thn (hkw.run pos pins s σ H _ I h) fun ws s2 ⟨zs, H2, I2, rz, l1, l2, q2⟩ => ⟨I2.kIn, ?_⟩
  rw [hks]
  exact run_mkX (us := []) (vs := []) M F (hr.low hk) (b pt hpt) tkW I2 .nil rz l1 l2 q2
theorem vx_callXK {pats : List Pat} (c : CalX X.prog X.w X.K X.mg X.base k x sp pats) (pt : Pat) (hpt : pt ∈ pats) (hr : RoomG j X.A) (hk : k ≤ j) (tkW : Takes X W) (hg : Gl X x) (hkw : PK X kws tk)
    (hall : (backToKw pos (keywordEach kws X.env)).all (·.1.isSome) = true := by rfl) (hks : (backToKw pos (keywordEach kws X.env)).filterMap (·.1) = pt.2.1 := by rfl) (hdb : (x == ("__debug__" : Str)) = false := by decide)
    (hpl : ((backTo pos (starEach [] X.env)).any (·.1) || (backToKw pos (keywordEach kws X.env)).any (·.1.isNone)) = false := by rfl) :
    PE X (.Call (.Name x p) [] kws pos) (tCallX pt.1 pt.2.1.length sp pt.2.2 W tNil tk) := by
  obtain ⟨f, fd, ps, F, hm, kp, b⟩ := c.ex
  refine ⟨fun pins s σ H Q I h => ?_⟩
  refine wpAny_Call_Name_kw (ld_glob I hg hm ?_ hdb)
  refine PySem.W.callWith_KW0 (h₀ := X.base) I.ok.mod.kin kp hall ?_ hpl
  refine thn (hkw.run pos pins s σ H _ I h) fun ws s2 ⟨zs, H2, I2, rz, l1, l2, q2⟩ => ⟨I2.kIn, ?_⟩
  rw [hks]
  exact run_X (us := []) (vs := []) F (hr.low hk) (b pt hpt) tkW I2 .nil rz l1 l2 q2
theorem vx_methXK {pats : List Pat} {pl : Sem Bool} (c : MetX X.prog X.w X.K X.mg X.base k C m sp pats) (pt : Pat) (hpt : pt ∈ pats) (hr : RoomG j X.A) (hk : k ≤ j) (tkW : Takes X W) (he : PE X o ta) (hkw : PK X kws tk)
    (hall : (backToKw pos (keywordEach kws X.env)).all (·.1.isSome) = true := by rfl) (hks : (backToKw pos (keywordEach kws X.env)).filterMap (·.1) = pt.2.1 := by rfl)
    (hpl : ((backTo pos (starEach [] X.env)).any (·.1) || (backToKw pos (keywordEach kws X.env)).any (·.1.isNone)) = false := by rfl)
    (ht : eval (.Call (.Attribute o m apos) [] kws pos) X.env = (do
      let ov ← eval o X.env
      standAt apos.atName
      let (f, first) ← holding [ov] (getMethod ov m pl)
      callWith pos f first (backTo pos (starEach [] X.env)) (backToKw pos (keywordEach kws X.env))) := by rfl) :
    PE X (.Call (.Attribute o m apos) [] kws pos) (tMethX C m pt.1 pt.2.1.length sp pt.2.2 W ta tNil tk) := by
  obtain ⟨f, fd, ps, hc, hm, F, b⟩ := c.ex
  refine ⟨fun pins s σ H Q I h => ?_⟩
  refine PySem.W.methodCall_KW (pl := pl) (thn (he.run pins s σ H _ I h) fun u s1 ⟨x, H1, I1, rx, a, dx, fs, ex, ea, l, q⟩ => ?_) ht
  subst ex
  obtain rfl : u = Value.ref a := rx
  refine getmeth_ok I1 ea hc hm l ?_
  refine PySem.W.callWith_KW0 (first := [.ref a]) (h₀ := X.base) I.ok.mod.kin hm.kp hall ?_ hpl
  refine thn (hkw.run pos pins s1 σ H1 _ I1 q) fun ws s3 ⟨zs, H3, I3, rz, l1, l2, q3⟩ => ⟨I3.kIn, ?_⟩
  rw [hks]
  exact run_X (us := [.ref a]) (vs := [.ref a]) F (hr.low hk) (b pt hpt) tkW I3 (.cons rfl .nil) rz l1 l2 q3
end
end Vx
/-! # lists within lists that are owned as a whole -/
namespace Vx
open PySem PySem.Spec PyProof.Rows L2
inductive Kd where
  | lst
  | tup
  | ins (C dx : Addr) (ns : List Str)
def Kd.ho : Kd → List V → HO
  | .lst, vs => .lst vs
  | .tup, vs => .tup vs
  | .ins C dx ns, vs => .ins C dx (ns.zip vs)
/-- what stands in the heap as a tree: values as they are, data that stay, nodes of its own -/
inductive Dt where
  | val (v : V)
  | frz (d : PyData)
  | nod (k : Kd) (xs : List Dt)
mutual
inductive Ow (G H : Hp) : List Addr → V → Dt → Prop
  | val (v : V) : Ow G H [] v (.val v)
  | frz {v : V} {d : PyData} : Rp G v d → Ow G H [] v (.frz d)
  | nod {a : Addr} {k : Kd} {vs : List V} {ds : List Dt} {L : List Addr} : H a = some (k.ho vs) → OwAll G H L vs ds → a ∉ L → Ow G H (a :: L) (.ref a) (.nod k ds)
inductive OwAll (G H : Hp) : List Addr → List V → List Dt → Prop
  | nil : OwAll G H [] [] []
  | cons {L1 L2 : List Addr} {v : V} {vs : List V} {d : Dt} {ds : List Dt} : Ow G H L1 v d → OwAll G H L2 vs ds → (∀ b ∈ L1, b ∉ L2) → OwAll G H (L1 ++ L2) (v :: vs) (d :: ds)
end
def Keeps (L : List Addr) (H H' : Hp) : Prop := ∀ b ∈ L, ∀ o, H b = some o → H' b = some o
mutual
theorem Ow.mono {G G' H H' : Hp} (e : Same G G') : ∀ {L : List Addr} {v : V} {d : Dt}, Keeps L H H' → Ow G H L v d → Ow G' H' L v d
  | _, _, _, _, .val v => .val v
  | _, _, _, _, .frz r => .frz (r.mono e)
  | _, _, _, k, .nod h r n => .nod (k _ List.mem_cons_self _ h) (OwAll.mono e (fun b hb => k b (List.mem_cons_of_mem _ hb)) r) n
theorem OwAll.mono {G G' H H' : Hp} (e : Same G G') : ∀ {L : List Addr} {vs : List V} {ds : List Dt}, Keeps L H H' → OwAll G H L vs ds → OwAll G' H' L vs ds
  | _, _, _, _, .nil => .nil
  | _, _, _, k, .cons a r d => .cons (Ow.mono e (fun b hb => k b (List.mem_append_left _ hb)) a) (OwAll.mono e (fun b hb => k b (List.mem_append_right _ hb)) r) d
end
mutual
theorem Ow.there {G H : Hp} : ∀ {L : List Addr} {v : V} {d : Dt}, Ow G H L v d → ∀ b ∈ L, H b ≠ none
  | _, _, _, .val _, _, hb => nomatch hb
  | _, _, _, .frz _, _, hb => nomatch hb
  | _, _, _, .nod h r n, b, hb => by
    rcases List.mem_cons.mp hb with rfl | hb
    · exact some_ne h
    · exact OwAll.there r b hb
theorem OwAll.there {G H : Hp} : ∀ {L : List Addr} {vs : List V} {ds : List Dt}, OwAll G H L vs ds → ∀ b ∈ L, H b ≠ none
  | _, _, _, .nil, _, hb => nomatch hb
  | _, _, _, .cons a r d, b, hb => by
    rcases List.mem_append.mp hb with hb | hb
    · exact Ow.there a b hb
    · exact OwAll.there r b hb
end
theorem OwAll.len {G H : Hp} : ∀ {L : List Addr} {vs : List V} {ds : List Dt}, OwAll G H L vs ds → vs.length = ds.length
  | _, _, _, .nil => rfl
  | _, _, _, .cons _ r _ => congrArg Nat.succ r.len
theorem OwAll.snoc {G H : Hp} {L1 : List Addr} {v : V} {d : Dt} (h : Ow G H L1 v d) : ∀ {L : List Addr} {vs : List V} {ds : List Dt}, OwAll G H L vs ds → (∀ b ∈ L, b ∉ L1) → OwAll G H (L ++ L1) (vs ++ [v]) (ds ++ [d])
  | _, _, _, .nil, _ => by
    have z : OwAll G H (L1 ++ []) [v] [d] := .cons h .nil (fun _ _ z => nomatch z)
    rw [List.append_nil] at z
    exact z
  | _, _, _, .cons (L1 := La) (L2 := Lb) a r n, k => by
    have z := OwAll.cons a (OwAll.snoc h r fun b hb => k b (List.mem_append_right _ hb)) (fun b hb q => by
      rcases List.mem_append.mp q with q | q
      · exact n b hb q
      · exact k b (List.mem_append_left _ hb) q)
    rw [← List.append_assoc] at z
    exact z
theorem OwAll.app {G H : Hp} {L2 : List Addr} {ws : List V} {es : List Dt} (h : OwAll G H L2 ws es) : ∀ {L : List Addr} {vs : List V} {ds : List Dt}, OwAll G H L vs ds → (∀ b ∈ L, b ∉ L2) → OwAll G H (L ++ L2) (vs ++ ws) (ds ++ es)
  | _, _, _, .nil, _ => h
  | _, _, _, .cons (L1 := La) (L2 := Lb) a r n, k => by
    have z := OwAll.cons a (OwAll.app h r fun b hb => k b (List.mem_append_right _ hb)) (fun b hb q => by
      rcases List.mem_append.mp q with q | q
      · exact n b hb q
      · exact k b (List.mem_append_left _ hb) q)
    rw [← List.append_assoc] at z
    exact z
/-! ### trees that are data -/
mutual
inductive Dd : Dt → PyData → Prop
  | non : Dd (.val .non) .none
  | bl (b : Bool) : Dd (.val (.bl b)) (.bool b)
  | int (i : Int) : Dd (.val (.int i)) (.int i)
  | str (x : Str) : Dd (.val (.str x)) (.str x)
  | frz (d : PyData) : Dd (.frz d) d
  | lst {xs : List Dt} {ds : List PyData} : DdAll xs ds → Dd (.nod .lst xs) (.list ds)
  | tup {xs : List Dt} {ds : List PyData} : DdAll xs ds → Dd (.nod .tup xs) (.tuple ds)
inductive DdAll : List Dt → List PyData → Prop
  | nil : DdAll [] []
  | cons {x : Dt} {xs : List Dt} {d : PyData} {ds : List PyData} : Dd x d → DdAll xs ds → DdAll (x :: xs) (d :: ds)
end
mutual
/-- read in any heap that holds its nodes -/
theorem Ow.rp {G H I : Hp} (e : Same G I) : ∀ {L : List Addr} {v : V} {d : Dt} {p : PyData}, Keeps L H I → Ow G H L v d → Dd d p → Rp I v p
  | _, _, _, _, _, .val _, .non => .non
  | _, _, _, _, _, .val _, .bl b => .bl b
  | _, _, _, _, _, .val _, .int i => .int i
  | _, _, _, _, _, .val _, .str x => .str x
  | _, _, _, _, _, .frz r, .frz _ => r.mono e
  | _, _, _, _, k, .nod h r _, .lst q => .lst (k _ List.mem_cons_self _ h) (OwAll.rp e (fun b hb => k b (List.mem_cons_of_mem _ hb)) r q)
  | _, _, _, _, k, .nod h r _, .tup q => .tup (k _ List.mem_cons_self _ h) (OwAll.rp e (fun b hb => k b (List.mem_cons_of_mem _ hb)) r q)
theorem OwAll.rp {G H I : Hp} (e : Same G I) : ∀ {L : List Addr} {vs : List V} {ds : List Dt} {ps : List PyData}, Keeps L H I → OwAll G H L vs ds → DdAll ds ps → RpAll I vs ps
  | _, _, _, _, _, .nil, .nil => .nil
  | _, _, _, _, k, .cons a r _, .cons x xs => .cons (Ow.rp e (fun b hb => k b (List.mem_append_left _ hb)) a x) (OwAll.rp e (fun b hb => k b (List.mem_append_right _ hb)) r xs)
end
def oI (i : Int) : Dt := .val (.int i)
def oB (b : Bool) : Dt := .val (.bl b)
def oF {α : Type} (f : α → PyData) (x : α) : Dt := .frz (f x)
def oL {α : Type} (f : α → Dt) (xs : List α) : Dt := .nod .lst (xs.map f)
def EncO {α : Type} (f : α → Dt) (g : α → PyData) : Prop := ∀ x, Dd (f x) (g x)
theorem encO_I : EncO oI PyData.int := fun i => .int i
theorem encO_B : EncO oB PyData.bool := fun i => .bl i
theorem encO_F {α : Type} {f : α → PyData} : EncO (oF f) f := fun _ => .frz _
theorem EncO.all {α : Type} {f : α → Dt} {g : α → PyData} (h : EncO f g) : ∀ xs : List α, DdAll (xs.map f) (xs.map g)
  | [] => .nil
  | x :: xs => .cons (h x) (EncO.all h xs)
theorem encO_L {α : Type} {f : α → Dt} {g : α → PyData} (h : EncO f g) : EncO (oL f) (encL g) := fun xs => .lst (h.all xs)
theorem keeps_same {L : List Addr} {H H' : Hp} (e : Same H H') : Keeps L H H' := fun b _ o q => e b o q
theorem keeps_refl {L : List Addr} {H : Hp} : Keeps L H H := fun _ _ _ q => q
theorem keeps_mut {L : List Addr} {H H' : Hp} {m : Addr} (x : SameX m H H') (n : ∀ b ∈ L, b ≠ m) : Keeps L H H' := fun b hb o q => x b o q (n b hb)
theorem keeps_muts {L M : List Addr} {H H' : Hp} (x : SameXs M H H') (n : ∀ b ∈ L, b ∉ M) : Keeps L H H' := fun b hb o q => x b o q (n b hb)
theorem keeps_hide {L M : List Addr} {H : Hp} (n : ∀ b ∈ L, b ∉ M) : Keeps L H (hideL M H) := fun b hb o q => by
  rw [hideL_out (n b hb)]
  exact q
section
variable {α : Type} {f : α → Dt} {g : α → PyData} {G H I : Hp} {L : List Addr} {vs : List V} {xs : List α}
theorem OwAll.rpA (w : OwAll G H L vs (xs.map f)) (h : EncO f g) (e : Same G H) : RpAll H vs (xs.map g) := OwAll.rp e keeps_refl w (h.all xs)
theorem OwAll.rpH (w : OwAll G H L vs (xs.map f)) (h : EncO f g) (e : Same G I) (k : Keeps L H I) : RpAll I vs (xs.map g) := OwAll.rp e k w (h.all xs)
theorem OwAll.lenM (w : OwAll G H L vs (xs.map f)) : vs.length = xs.length := by rw [w.len, List.length_map]
theorem OwAll.snocM {L1 : List Addr} {v : V} {y : α} (w : OwAll G H L vs (xs.map f)) (h : Ow G H L1 v (f y)) (n : ∀ b ∈ L, b ∉ L1) : OwAll G H (L ++ L1) (vs ++ [v]) ((xs ++ [y]).map f) := by
  rw [List.map_append]
  exact OwAll.snoc h w n
theorem Ow.ints {a : Addr} {ys : List Int} (h : H a = some (.lst (ys.map V.int))) : Ow G H [a] (.ref a) (oL oI ys) := by
  have z : ∀ ys : List Int, OwAll G H [] (ys.map V.int) (ys.map oI) := fun ys => by
    induction ys with
    | nil => exact .nil
    | cons y r ih => exact .cons (L1 := []) (L2 := []) (.val _) ih (fun _ z => nomatch z)
  exact .nod (k := .lst) h (z ys) (fun z => nomatch z)
theorem Ow.list {a : Addr} {xs : List α} {L : List Addr} {vs : List V} (h : H a = some (.lst vs)) (w : OwAll G H L vs (xs.map f)) (n : ∀ b ∈ L, b ≠ a) : Ow G H (a :: L) (.ref a) (oL f xs) := .nod (k := .lst) h w (fun z => n a z rfl)
theorem Ow.toList {v : V} {L : List Addr} {xs : List α} (w : Ow G H L v (oL f xs)) : ∃ a vs L', v = .ref a ∧ L = a :: L' ∧ H a = some (.lst vs) ∧ OwAll G H L' vs (xs.map f) ∧ ∀ b ∈ L', b ≠ a := by
  unfold oL at w
  cases w with
  | nod h r n => exact ⟨_, _, _, rfl, rfl, h, r, fun b hb z => n (z ▸ hb)⟩
theorem OwAll.toInts : ∀ {L : List Addr} {vs : List V} {xs : List Int}, OwAll G H L vs (xs.map oI) → L = [] ∧ vs = xs.map V.int
  | _, _, [], .nil => ⟨rfl, rfl⟩
  | _, _, x :: xs, .cons a r _ => by
    obtain ⟨h1, h2⟩ := OwAll.toInts r
    cases a
    exact ⟨by rw [h1] <;> rfl, by rw [h2] <;> rfl⟩
theorem Ow.toInts {v : V} {L : List Addr} {xs : List Int} (w : Ow G H L v (oL oI xs)) : ∃ a, v = .ref a ∧ L = [a] ∧ H a = some (.lst (xs.map V.int)) := by
  obtain ⟨a, vs, L', rfl, rfl, h, r, _⟩ := w.toList
  obtain ⟨rfl, rfl⟩ := r.toInts
  exact ⟨a, rfl, rfl, h⟩
/-- the part at a place, and how a change of it alone changes the whole -/
theorem OwAll.part : ∀ {L : List Addr} {vs : List V} {ds : List Dt} {i : Nat} {d : Dt}, OwAll G H L vs ds → ds[i]? = some d → ∃ v L1, vs[i]? = some v ∧ Ow G H L1 v d ∧ (∀ b ∈ L1, b ∈ L) ∧
    ∀ H' d', (∀ b ∈ L, b ∉ L1 → ∀ o, H b = some o → H' b = some o) → Ow G H' L1 v d' → OwAll G H' L vs (ds.set i d')
  | _, _, _, _, _, .nil, h => by simp at h
  | _, _, _, 0, _, .cons (L1 := La) (L2 := Lb) a r n, h => by
    simp at h
    subst h
    refine ⟨_, La, rfl, a, fun b hb => List.mem_append_left _ hb, fun H' d' k w => ?_⟩
    exact .cons w (OwAll.mono (Same.refl G) (fun b hb => k b (List.mem_append_right _ hb) fun z => n b z hb) r) n
  | _, _, _, i + 1, _, .cons (L1 := La) (L2 := Lb) a r n, h => by
    obtain ⟨v, L1, h1, h2, h3, h4⟩ := OwAll.part (i := i) r (by simpa using h)
    refine ⟨v, L1, by simpa using h1, h2, fun b hb => List.mem_append_right _ (h3 b hb), fun H' d' k w => ?_⟩
    refine .cons (Ow.mono (Same.refl G) (fun b hb => k b (List.mem_append_left _ hb) fun z => n b hb (h3 b z)) a) (h4 H' d' (fun b hb nb => k b (List.mem_append_right _ hb) nb) w) n
theorem OwAll.partM [Inhabited α] {k : Int} (w : OwAll G H L vs (xs.map f)) (h : -(xs.length : Int) ≤ k ∧ k < xs.length) : ∃ v L1, atI vs k = some v ∧ Ow G H L1 v (f (itD xs k)) ∧ (∀ b ∈ L1, b ∈ L) ∧
    ∀ H' y, (∀ b ∈ L, b ∉ L1 → ∀ o, H b = some o → H' b = some o) → Ow G H' L1 v (f y) → OwAll G H' L vs ((setL xs k y).map f) := by
  obtain ⟨j, e, hj⟩ := ixN_some h
  have hx := List.getElem?_eq_getElem hj
  obtain ⟨v, L1, h1, h2, h3, h4⟩ := OwAll.part (i := j) (d := f xs[j]) w (by rw [List.getElem?_map, hx] <;> rfl)
  have ei : itD xs k = xs[j] := by
    unfold itD atI
    rw [e]
    show (xs[j]?).getD default = _
    rw [hx] <;> rfl
  refine ⟨v, L1, ?_, by rw [ei]; exact h2, h3, fun H' y q w2 => ?_⟩
  · unfold atI
    rw [w.lenM, e]
    exact h1
  · have z := h4 H' (f y) q w2
    unfold setL
    rw [e, List.map_set]
    exact z
/-- the item of a turn -/
theorem OwAll.turn {i : Nat} {v : V} (w : OwAll G H L vs (xs.map f)) (h : vs[i]? = some v) : ∃ x L1, xs[i]? = some x ∧ Ow G H L1 v (f x) ∧ ∀ b ∈ L1, b ∈ L := by
  have hl := get_len h
  have e := w.lenM
  have hx := List.getElem?_eq_getElem (show i < xs.length by omega)
  obtain ⟨v2, L1, h1, h2, h3, _⟩ := OwAll.part (i := i) (d := f xs[i]) w (by rw [List.getElem?_map, hx] <;> rfl)
  rw [h] at h1
  cases h1
  exact ⟨_, L1, hx, h2, h3⟩
end
/-! ### what is owned, in pieces -/
theorem all_app {P : Addr → Prop} {L l : List Addr} (h : ∀ x ∈ L, P x) (t : ∀ x ∈ l, P x) : ∀ x ∈ L ++ l, P x := fun x hx => by
  rcases List.mem_append.mp hx with q | q
  · exact h x q
  · exact t x q
theorem nm_nil {a : Addr} : a ∉ ([] : List Addr) := fun z => nomatch z
theorem nm_cons {a m : Addr} {l : List Addr} (h : a ≠ m) (t : a ∉ l) : a ∉ m :: l := fun z => by
  rcases List.mem_cons.mp z with q | q
  · exact h q
  · exact t q
theorem nm_app {a : Addr} {L l : List Addr} (h : a ∉ L) (t : a ∉ l) : a ∉ L ++ l := fun z => by
  rcases List.mem_append.mp z with q | q
  · exact h q
  · exact t q
theorem there_ne {H : Hp} {L : List Addr} {x : Addr} (t : ∀ b ∈ L, H b ≠ none) (n : H x = none) : ∀ b ∈ L, b ≠ x := fun b hb z => t b hb (z ▸ n)
theorem new_ne {H : Hp} {L : List Addr} {x : Addr} {o : HO} (n : ∀ b ∈ L, H b = none) (h : H x = some o) : ∀ b ∈ L, b ≠ x := fun b hb z => by
  have := n b hb
  rw [z, h] at this
  cases this
theorem new_nl {H : Hp} {L L2 : List Addr} (n : ∀ b ∈ L, H b = none) (t : ∀ b ∈ L2, H b ≠ none) : ∀ b ∈ L, b ∉ L2 := fun b hb z => t b z (n b hb)
theorem nl_symm {L L2 : List Addr} (h : ∀ b ∈ L, b ∉ L2) : ∀ b ∈ L2, b ∉ L := fun b hb z => h b z hb
theorem none_of_same {H H' : Hp} {x : Addr} (e : Same H H') (n : H' x = none) : H x = none := by
  cases q : H x with
  | none => rfl
  | some o =>
    rw [e x o q] at n
    cases n
section
variable {M : List Addr} {H0 G0 G H H' : Hp} {O L : List Addr} {p m : Addr} {o : HO}
theorem Sep.h0 (S : Sep M H0 G0 G H O) {b : Addr} (hb : b ∈ O) (hM : b ∉ M) : H0 b = none := (S.ow b hb).2.2.elim (fun z => (hM z).elim) id
theorem g_nl {a : Addr} {o : HO} (h : G a = some o) (S : Sep M H0 G0 G H O) (hL : ∀ b ∈ L, b ∈ O) : ∀ b ∈ L, b ≠ a := fun b hb => (g_ne h S (hL b hb)).symm
theorem b_nl {a : Addr} {o : HO} (h : (hideL M H0) a = some o) (S : Sep M H0 G0 G H O) (hL : ∀ b ∈ L, b ∈ O) : ∀ b ∈ L, b ≠ a := fun b hb => (b_ne h S (hL b hb)).symm
/-- a whole tree that is to stay as it is -/
theorem Sep.freezeL (S : Sep M H0 G0 G H O) {O' : List Addr} (hL : ∀ b ∈ L, b ∈ O) (h0 : ∀ b ∈ L, H0 b = none) (hO : ∀ b ∈ O', b ∈ O ∧ b ∉ L) : ∃ G', Same G G' ∧ Keeps L H G' ∧ Sep M H0 G0 G' H O' := by
  have gn : ∀ b ∈ L, G b = none := fun b hb => (S.ow b (hL b hb)).1
  refine ⟨fun b => if b ∈ L then H b else G b, fun b u q => ?_, fun b hb u q => ?_, S.base, S.pm, fun b u q => ?_, fun b u q => ?_, fun b hb gb => ?_, fun a ha => ?_⟩
  · have n : b ∉ L := fun z => by
      rw [gn b z] at q
      cases q
    show (if b ∈ L then H b else G b) = _
    rw [if_neg n]
    exact q
  · show (if b ∈ L then H b else G b) = _
    rw [if_pos hb]
    exact q
  · by_cases z : b ∈ L
    · exact (if_pos z).symm.trans q
    · exact S.sG b u ((if_neg z).symm.trans q)
  · have z : b ∉ L := fun z => by
      have := S.g0 b u q
      rw [gn b z] at this
      cases this
    show (if b ∈ L then H b else G b) = _
    rw [if_neg z]
    exact S.g0 b u q
  · have z : b ∉ L := fun z => hb (h0 b z)
    show (if b ∈ L then H b else G b) = _
    rw [if_neg z]
    exact S.gn b hb gb
  · obtain ⟨h1, h2⟩ := hO a ha
    refine ⟨?_, (S.ow a h1).2⟩
    show (if a ∈ L then H a else G a) = _
    rw [if_neg h2]
    exact (S.ow a h1).1
/-- a callee hands over a list of lists of its own making -/
theorem Sep.steptree (S : Sep M H0 G0 G H O) {G' : Hp} (e : Same H H') (eG : Same G G') (sG : Same G' H') (hn : ∀ b, H b ≠ none → G b = none → G' b = none) (L : List Addr) (hL : ∀ b ∈ L, H b = none ∧ G' b = none ∧ H' b ≠ none) : Sep M H0 G0 G' H' (L ++ O) := by
  have S2 := S.step e eG sG hn
  refine ⟨S2.base, S2.pm, S2.sG, S2.g0, S2.gn, all_app (fun b hb => ⟨(hL b hb).2.1, (hL b hb).2.2, .inr (S.free (hL b hb).1)⟩) S2.ow⟩
end
theorem Rp.list_of {α : Type} {g : α → PyData} {H : Hp} {a : Addr} {vs : List V} {xs : List α} (h : H a = some (.lst vs)) (r : RpAll H vs (xs.map g)) : Rp H (.ref a) (encL g xs) := .lst h r
/-! ### repr of data -/
mutual
def nodes : PyData → Nat
  | .list xs => 1 + nodesAll xs
  | .tuple xs => 1 + nodesAll xs
  | _ => 1
def nodesAll : List PyData → Nat
  | [] => 0
  | x :: xs => nodes x + nodesAll xs
end
mutual
def smallD : PyData → Bool
  | .none => true
  | .bool _ => true
  | .int i => decide (i.natAbs < 10 ^ 19)
  | .str x => decide ((reprText x).length ≤ 20)
  | .list xs => smallAll xs
  | .tuple xs => smallAll xs
  | _ => false
def smallAll : List PyData → Bool
  | [] => true
  | x :: xs => smallD x && smallAll xs
end
theorem piled_list (ts : List Str) : (listText ts).length ≤ piled ts + 2 := by
  cases ts with
  | nil => exact Nat.le_refl 2
  | cons t r =>
    have e : (listText (t :: r)).length = (textFrom 1 ("[" ++ ("" : String) ++ t) r).length + 1 := by
      show (textFrom 0 "[" (t :: r) ++ "]").length = _
      rw [strLen_append]
      rfl
    rw [e, textFrom_length_pos r 1 _ (by decide), piled_cons, strLen_append, strLen_append]
    have h1 : (("[" : String) : Str).length = 1 := rfl
    have h2 : (("" : String) : Str).length = 0 := rfl
    omega
theorem piled_tup (ts : List Str) : (tupleText ts).length ≤ piled ts + 3 := by
  unfold tupleText
  rw [strLen_append, strLen_append]
  have h1 : (("(" : String) : Str).length = 1 := rfl
  have h2 : (((if ts.length == 1 then ",)" else ")" : String) : Str)).length ≤ 2 := by split <;> decide
  by_cases h : ts = []
  · subst h
    exact Nat.le_of_lt (by decide)
  · have := join_length_add ts h
    omega
mutual
theorem small_shown : ∀ d : PyData, smallD d = true → d.shown.length + 4 ≤ 26 * nodes d ∧ d.showable = true ∧ d.hasDict = false
  | .none, _ => ⟨by simp only [PyData.shown, nodes]; decide, by simp [PyData.showable], by simp [PyData.hasDict]⟩
  | .bool b, _ => ⟨by cases b <;> simp only [PyData.shown, nodes] <;> decide, by simp [PyData.showable], by simp [PyData.hasDict]⟩
  | .int i, h => by
    have h : i.natAbs < 10 ^ 19 := by simpa [smallD] using h
    refine ⟨?_, ?_, by simp [PyData.hasDict]⟩
    · have := int_text_length_le10 (k := 19) (by decide) h
      simp only [PyData.shown, nodes]
      rw [PySem.ofString_length]
      omega
    · simp only [PyData.showable, decide_eq_true_eq]
      have : i.natAbs < 2 ^ 64 := by omega
      rcases Nat.eq_zero_or_pos i.natAbs with z | z
      · rw [z]
        decide
      · have := (Nat.log2_lt (by omega)).mpr this
        omega
  | .str x, h => by
    have h : (reprText x).length ≤ 20 := by simpa [smallD] using h
    refine ⟨by simp only [PyData.shown, nodes]; omega, by simp [PyData.showable], by simp [PyData.hasDict]⟩
  | .list xs, h => by
    obtain ⟨h1, h2, h3⟩ := small_shownAll xs (by simpa [smallD] using h)
    refine ⟨?_, by simpa [PyData.showable] using h2, by simpa [PyData.hasDict] using h3⟩
    have := piled_list (PyData.shownAll xs)
    simp only [PyData.shown, nodes]
    omega
  | .tuple xs, h => by
    obtain ⟨h1, h2, h3⟩ := small_shownAll xs (by simpa [smallD] using h)
    refine ⟨?_, by simpa [PyData.showable] using h2, by simpa [PyData.hasDict] using h3⟩
    have := piled_tup (PyData.shownAll xs)
    simp only [PyData.shown, nodes]
    omega
  | .dict kvs, h => by simp [smallD] at h
theorem small_shownAll : ∀ ds : List PyData, smallAll ds = true → piled (PyData.shownAll ds) ≤ 26 * nodesAll ds ∧ PyData.showableAll ds = true ∧ PyData.hasDictAll ds = false
  | [], _ => ⟨by simp [PyData.shownAll, nodesAll, piled], by simp [PyData.showableAll], by simp [PyData.hasDictAll]⟩
  | d :: ds, h => by
    have h : smallD d = true ∧ smallAll ds = true := by simpa [smallAll] using h
    obtain ⟨a1, a2, a3⟩ := small_shown d h.1
    obtain ⟨b1, b2, b3⟩ := small_shownAll ds h.2
    refine ⟨?_, by simp [PyData.showableAll, a2, b2], by simp [PyData.hasDictAll, a3, b3]⟩
    simp only [PyData.shownAll, nodesAll, piled_cons]
    omega
end
/-- data that repr may show -/
def ShowOk (d : PyData) : Prop := smallD d = true ∧ nodes d ≤ 600000 ∧ d.depth ≤ 60
instance (d : PyData) : Decidable (ShowOk d) := by unfold ShowOk; infer_instance
def rRepr : List V → Hp → VK → Prop := fun xs H Q => ∃ (a : Addr) (d : PyData), xs = [.ref a] ∧ Rp H (.ref a) d ∧ ShowOk d ∧ Q (.str d.shown) H
theorem call_reprD {X : Cx} (hg : X.A.guards = some []) (hu : X.A.units + 64 < cLine) : CallR X (.builtin "repr") rRepr := by
  intro pins s σ H xs us Q I r h
  obtain ⟨a, d, rfl, rp, ⟨ok, nd, dp⟩, q⟩ := h
  obtain ⟨h1, h2, h3⟩ := small_shown d ok
  cases r with
  | cons ra rn =>
    cases rn
    cases ra
    obtain ⟨as, reads⟩ := Dp.reads I d _ _ rp.dp rfl
    refine repr_of_reads' reads h2 (PyData.noDict_hsm h3) hg (by omega) (fun _ _ e => e) (fun h' u tk k => ⟨.str d.shown, H, I.kept k, ⟨u, rfl⟩, q⟩) ?_
    show d.shown.length ≤ 2 ^ 24
    omega
/-- small data: nodes, depth -/
def Sm (n k : Nat) (d : PyData) : Prop := smallD d = true ∧ nodes d ≤ n ∧ d.depth ≤ k
theorem Sm.imp {n k n' k' : Nat} {d : PyData} (h : Sm n k d) (a : n ≤ n') (b : k ≤ k') : Sm n' k' d := ⟨h.1, Nat.le_trans h.2.1 a, Nat.le_trans h.2.2 b⟩
theorem Sm.show {n k : Nat} {d : PyData} (h : Sm n k d) (a : n ≤ 600000 := by decide) (b : k ≤ 60 := by decide) : ShowOk d := h.imp a b
theorem sm_non : Sm 1 0 .none := ⟨by simp [smallD], by simp [nodes], by simp [PyData.depth]⟩
theorem sm_bool (b : Bool) : Sm 1 0 (.bool b) := ⟨by simp [smallD], by simp [nodes], by simp [PyData.depth]⟩
theorem sm_int {i : Int} (h : -10000000000000000000 < i ∧ i < 10000000000000000000) : Sm 1 0 (.int i) := ⟨by simp only [smallD, decide_eq_true_eq]; omega, by simp [nodes], by simp [PyData.depth]⟩
theorem sm_all {α : Type} {f : α → PyData} {n k : Nat} : ∀ {xs : List α}, (∀ x ∈ xs, Sm n k (f x)) → smallAll (xs.map f) = true ∧ nodesAll (xs.map f) ≤ xs.length * n ∧ PyData.depthAll (xs.map f) ≤ k
  | [], _ => ⟨by simp [smallAll], by simp [nodesAll], by simp [PyData.depthAll]⟩
  | x :: xs, h => by
    obtain ⟨a1, a2, a3⟩ := h x List.mem_cons_self
    obtain ⟨b1, b2, b3⟩ := sm_all fun y hy => h y (List.mem_cons_of_mem _ hy)
    refine ⟨by simp [smallAll, a1, b1], ?_, ?_⟩
    · simp only [List.map_cons, nodesAll, List.length_cons, Nat.succ_mul]
      omega
    · simp only [List.map_cons, PyData.depthAll]
      omega
theorem sm_L {α : Type} {f : α → PyData} {n k m : Nat} {xs : List α} (h : ∀ x ∈ xs, Sm n k (f x)) (hm : xs.length ≤ m) : Sm (1 + m * n) (k + 1) (encL f xs) := by
  obtain ⟨a1, a2, a3⟩ := sm_all h
  refine ⟨by simp [encL, smallD, a1], ?_, ?_⟩
  · have := Nat.mul_le_mul_right n hm
    simp only [encL, nodes]
    omega
  · simp only [encL, PyData.depth]
    omega
theorem sm_ints {xs : List Int} {m : Nat} (h : ∀ x ∈ xs, -10000000000000000000 < x ∧ x < 10000000000000000000) (hm : xs.length ≤ m) : Sm (1 + m * 1) 1 (encL PyData.int xs) := sm_L (fun x hx => sm_int (h x hx)) hm
theorem sm_T2 {α β : Type} {f : α → PyData} {g : β → PyData} {n k m j : Nat} {p : α × β} (h1 : Sm n k (f p.1)) (h2 : Sm m j (g p.2)) : Sm (1 + n + m) (max k j + 1) (encT2 f g p) := by
  obtain ⟨a1, a2, a3⟩ := h1
  obtain ⟨b1, b2, b3⟩ := h2
  refine ⟨by simp [encT2, smallD, smallAll, a1, b1], ?_, ?_⟩
  · simp only [encT2, nodes, nodesAll]
    omega
  · simp only [encT2, PyData.depth, PyData.depthAll]
    omega
theorem sm_T3 {α β γ : Type} {f : α → PyData} {g : β → PyData} {h : γ → PyData} {n k m j l i : Nat} {p : α × β × γ} (h1 : Sm n k (f p.1)) (h2 : Sm m j (g p.2.1)) (h3 : Sm l i (h p.2.2)) : Sm (1 + n + m + l) (max k (max j i) + 1) (encT3 f g h p) := by
  obtain ⟨a1, a2, a3⟩ := h1
  obtain ⟨b1, b2, b3⟩ := h2
  obtain ⟨c1, c2, c3⟩ := h3
  refine ⟨by simp [encT3, smallD, smallAll, a1, b1, c1], ?_, ?_⟩
  · simp only [encT3, nodes, nodesAll]
    omega
  · simp only [encT3, PyData.depth, PyData.depthAll]
    omega
end Vx
namespace Vx
open PySem PySem.Spec PyProof.Rows L2
theorem new_ne2 {H : Hp} {L : List Addr} {x : Addr} (n : ∀ b ∈ L, H b = none) (h : H x ≠ none) : ∀ b ∈ L, b ≠ x := fun b hb z => h (z ▸ n b hb)
theorem upd_tree {α : Type} {f : α → Dt} {G H H' : Hp} {L L1 : List Addr} {vs : List V} {xs : List α} {k : Int} {v : V} {m : Addr} {y : α} (up : ∀ H' y, (∀ b ∈ L, b ∉ L1 → ∀ o, H b = some o → H' b = some o) → Ow G H' L1 v (f y) → OwAll G H' L vs ((setL xs k y).map f)) (x : SameX m H H') (hm : m ∈ L1) (w : Ow G H' L1 v (f y)) :
    OwAll G H' L vs ((setL xs k y).map f) := up H' y (fun c _ n o q => x c o q (fun z => n (z ▸ hm))) w
theorem Ow.toFrz {α : Type} {f : α → PyData} {G H : Hp} {L : List Addr} {v : V} {x : α} (w : Ow G H L v (oF f x)) : L = [] ∧ Rp G v (f x) := by
  unfold oF at w
  cases w with
  | frz r => exact ⟨rfl, r⟩
section
variable {α : Type} {f : α → Dt} {G H : Hp} {L : List Addr} {vs : List V} {xs : List α}
theorem OwAll.pin {i : Nat} {v : V} {x : α} (w : OwAll G H L vs (xs.map f)) (h : vs[i]? = some v) (hx : xs[i]? = some x) : ∃ L1, Ow G H L1 v (f x) ∧ ∀ b ∈ L1, b ∈ L := by
  obtain ⟨y, L1, h1, h2, h3⟩ := OwAll.turn w h
  rw [hx] at h1
  cases h1
  exact ⟨L1, h2, h3⟩
theorem OwAll.pinInts {i : Nat} {b : Addr} {xs : List (List Int)} {x : List Int} (w : OwAll G H L vs (xs.map (oL oI))) (h : vs[i]? = some (.ref b)) (hx : xs[i]? = some x) : H b = some (.lst (x.map V.int)) ∧ b ∈ L := by
  obtain ⟨L1, w1, h1⟩ := OwAll.pin w h hx
  obtain ⟨c, e, rfl, h2⟩ := Ow.toInts w1
  cases e
  exact ⟨h2, h1 _ List.mem_cons_self⟩
end
end Vx
namespace Vx
open PySem PySem.Spec PyProof.Rows L2
theorem lookup_relab {c : Str → Bool} {y : Str} : ∀ l : List (Str × NameKind), (l.lookup y = some .cell ∨ l.lookup y = some .free) →
    ((l.map fun (n, k) => if (k == .free && c n) then (n, NameKind.cell) else (n, k)).lookup y = some .cell ∨ (l.map fun (n, k) => if (k == .free && c n) then (n, NameKind.cell) else (n, k)).lookup y = some .free)
  | [], h => by simp at h
  | (n, k) :: r, h => by
    rw [List.map_cons]
    dsimp only
    by_cases e : y == n
    · have hk : k = .cell ∨ k = .free := by
        rw [List.lookup_cons, e] at h
        simpa using h
      by_cases q : (k == .free && c n) = true
      · left
        rw [if_pos q, List.lookup_cons, e]
      · rw [if_neg q, List.lookup_cons, e]
        simpa using hk
    · have e : (y == n) = false := by simpa using e
      rw [List.lookup_cons, e] at h
      have ih := lookup_relab (c := c) r h
      by_cases q : (k == .free && c n) = true
      · rw [if_pos q, List.lookup_cons, e]
        exact ih
      · rw [if_neg q, List.lookup_cons, e]
        exact ih
theorem blk_relabel {N : List Str} {sc scope : Scope} {env : Env} {own : List (Str × Nat)} (h : BlkOk N sc scope own) : BlkOk N (relabel sc env) scope own := by
  refine ⟨h.kind, h.uniq, h.ix, fun y hy e => ?_, h.own⟩
  have z := lookup_relab (c := fun n => env.scope.kind == .function && env.kindOf n == some .cell) (y := y.1) sc.names (h.free y hy e)
  unfold relabel
  simpa only [Bool.and_assoc] using z
end Vx
/-! # fourth part: reckoning with functions that may refuse -/
namespace Vx
open PySem PySem.Spec PyProof.Rows L2
section
variable {α β σ ρ τ : Type}
theorem bind_ok (a : α) (f : α → Rx β) : (Rx.ok a).bind f = f a := rfl
theorem bind_er (e : Nat) (f : α → Rx β) : (Rx.er e : Rx α).bind f = .er e := rfl
theorem grd_pos {p : Prop} {dp : Decidable p} {m : Rx α} (h : p) : grd p m = m := if_pos h
theorem bnd_eq (a : α) (f : α → Rx β) : bnd a f = f a := rfl
theorem noEr_ok (a : α) : noEr (.ok a : Rx α) = .ok a := rfl
theorem tryR_ok {cs : List Nat} (a : α) (f : α → Rx β) (g : Nat → Rx β) : tryR (.ok a) cs f g = f a := rfl
theorem tryR_er {cs : List Nat} {e : Nat} (h : e ∈ cs) (f : α → Rx β) (g : Nat → Rx β) : tryR (.er e) cs f g = g e := if_pos h
theorem aft_go (s : σ) (kr : ρ → Rx τ) (k : σ → Rx τ) : (Lp.go s : Lp σ ρ).aft kr k = k s := rfl
theorem aft_rt (r : ρ) (kr : ρ → Rx τ) (k : σ → Rx τ) : (Lp.rt r : Lp σ ρ).aft kr k = kr r := rfl
/-- gives a value of which P holds -/
def Gv (m : Rx α) (P : α → Prop) : Prop := ∃ v, m = .ok v ∧ P v
theorem Gv.ok {a : α} {P : α → Prop} (h : P a) : Gv (.ok a) P := ⟨a, rfl, h⟩
theorem Gv.of_eq {m : Rx α} {a : α} {P : α → Prop} (e : m = .ok a) (h : P a) : Gv m P := ⟨a, e, h⟩
theorem Gv.bind {m : Rx α} {f : α → Rx β} {P : α → Prop} {Q : β → Prop} (h : Gv m P) (k : ∀ v, P v → Gv (f v) Q) : Gv (m.bind f) Q := by
  obtain ⟨v, rfl, p⟩ := h
  exact k v p
theorem Gv.bind_eq {m : Rx α} {f : α → Rx β} {a : α} {Q : β → Prop} (h : m = .ok a) (k : Gv (f a) Q) : Gv (m.bind f) Q := by
  subst h
  exact k
theorem Gv.grd {p : Prop} {dp : Decidable p} {m : Rx α} {Q : α → Prop} (h : p) (k : Gv m Q) : Gv (Vx.grd p m) Q := by
  rw [grd_pos h]
  exact k
theorem Gv.bnd {a : α} {f : α → Rx β} {Q : β → Prop} (k : ∀ x, x = a → Gv (f x) Q) : Gv (Vx.bnd a f) Q := k a rfl
theorem Gv.ite {p : Prop} {dp : Decidable p} {a b : Rx α} {Q : α → Prop} (h1 : p → Gv a Q) (h2 : ¬ p → Gv b Q) : Gv (if p then a else b) Q := by
  split
  · exact h1 ‹_›
  · exact h2 ‹_›
theorem Gv.pos {p : Prop} {dp : Decidable p} {a b : Rx α} {Q : α → Prop} (h : p) (k : Gv a Q) : Gv (if p then a else b) Q := by rwa [if_pos h]
theorem Gv.neg {p : Prop} {dp : Decidable p} {a b : Rx α} {Q : α → Prop} (h : ¬ p) (k : Gv b Q) : Gv (if p then a else b) Q := by rwa [if_neg h]
theorem Gv.imp {m : Rx α} {P Q : α → Prop} (h : Gv m P) (k : ∀ v, P v → Q v) : Gv m Q := by
  obtain ⟨v, e, p⟩ := h
  exact ⟨v, e, k v p⟩
theorem Gv.noEr {m : Rx α} {P : α → Prop} (h : Gv m P) : Gv (Vx.noEr m) P := by
  obtain ⟨v, rfl, p⟩ := h
  exact ⟨v, rfl, p⟩
theorem Gv.tryOk {m : Rx α} {cs : List Nat} {f : α → Rx β} {g : Nat → Rx β} {P : α → Prop} {Q : β → Prop} (h : Gv m P) (k : ∀ v, P v → Gv (f v) Q) : Gv (tryR m cs f g) Q := by
  obtain ⟨v, rfl, p⟩ := h
  exact k v p
theorem Gv.tryEr {m : Rx α} {cs : List Nat} {e : Nat} {f : α → Rx β} {g : Nat → Rx β} {Q : β → Prop} (h : m = .er e) (hm : e ∈ cs) (k : Gv (g e) Q) : Gv (tryR m cs f g) Q := by
  subst h
  rw [tryR_er hm]
  exact k
theorem Gv.get {m : Rx α} {a : α} (h : Gv m (fun v => v = a)) : m = .ok a := by
  obtain ⟨v, e, rfl⟩ := h
  exact e
theorem Gv.eq {m : Rx α} {P : α → Prop} (h : Gv m P) : ∃ v, m = .ok v ∧ P v := h
/-- a loop that keeps P -/
theorem Gv.forS {P : Nat → σ → Prop} {xs : List α} {s : σ} {f : σ → α → Rx σ} (h0 : P 0 s) (hs : ∀ i x s, xs[i]? = some x → P i s → Gv (f s x) (P (i + 1))) : Gv (Vx.forS xs s f) (P xs.length) := by
  induction xs generalizing s P with
  | nil => exact .ok h0
  | cons x r ih =>
    refine Gv.bind (hs 0 x s rfl h0) fun s' p => ?_
    exact ih (P := fun i => P (i + 1)) p fun i y s hy q => hs (i + 1) y s (by simpa using hy) q
theorem Gv.forR {P : Nat → σ → Prop} {xs : List α} {s : σ} {f : σ → α → Rx (Lp σ ρ)} (h0 : P 0 s) (hs : ∀ i x s, xs[i]? = some x → P i s → Gv (f s x) (fun l => ∃ s', l = .go s' ∧ P (i + 1) s')) : Gv (Vx.forR xs s f) (fun l => ∃ s', l = .go s' ∧ P xs.length s') := by
  induction xs generalizing s P with
  | nil => exact .ok ⟨s, rfl, h0⟩
  | cons x r ih =>
    refine Gv.bind (hs 0 x s rfl h0) ?_
    rintro _ ⟨s', rfl, p⟩
    exact ih (P := fun i => P (i + 1)) p fun i y s hy q => hs (i + 1) y s (by simpa using hy) q
/-- a loop that carries nothing -/
theorem forR_unit {xs : List α} {f : Unit → α → Rx (Lp Unit ρ)} (h : ∀ x ∈ xs, f () x = .ok (.go ())) : Vx.forR xs () f = .ok (.go ()) := by
  induction xs with
  | nil => rfl
  | cons x r ih =>
    show (f () x).bind _ = _
    rw [h x List.mem_cons_self]
    exact ih fun y hy => h y (List.mem_cons_of_mem _ hy)
theorem forS_pure {xs : List α} {s : σ} {f : σ → α → Rx σ} {g : σ → α → σ} (h : ∀ s x, x ∈ xs → f s x = .ok (g s x)) : Vx.forS xs s f = .ok (xs.foldl g s) := by
  induction xs generalizing s with
  | nil => rfl
  | cons x r ih =>
    show (f s x).bind _ = _
    rw [h s x List.mem_cons_self]
    exact ih fun s y hy => h s y (List.mem_cons_of_mem _ hy)
theorem mapA_pure {xs : List α} {acc : List β} {f : α → Rx β} {g : α → β} (h : ∀ x ∈ xs, f x = .ok (g x)) (hl : acc.length + xs.length ≤ 1000000) : mapA xs acc f = .ok (acc ++ xs.map g) := by
  induction xs generalizing acc with
  | nil => simp [mapA]
  | cons x r ih =>
    rw [List.length_cons] at hl
    unfold mapA
    rw [grd_pos (by omega), h x List.mem_cons_self, bind_ok, ih (fun y hy => h y (List.mem_cons_of_mem _ hy)) (by rw [List.length_append, List.length_cons, List.length_nil]; omega)]
    simp
theorem mapA_pure0 {xs : List α} {f : α → Rx β} {g : α → β} (h : ∀ x ∈ xs, f x = .ok (g x)) (hl : xs.length ≤ 1000000) : mapA xs [] f = .ok (xs.map g) := by
  rw [mapA_pure h (by simpa using hl)]
  rfl
theorem mapF_pure {xs : List α} {acc : List β} {f : α → Rx (Option β)} {g : α → Option β} (h : ∀ x ∈ xs, f x = .ok (g x)) (hl : acc.length + xs.length ≤ 1000000) : mapF xs acc f = .ok (acc ++ xs.filterMap g) := by
  induction xs generalizing acc with
  | nil => simp [mapF]
  | cons x r ih =>
    rw [List.length_cons] at hl
    unfold mapF
    rw [grd_pos (by omega), h x List.mem_cons_self, bind_ok]
    cases e : g x with
    | none =>
      show mapF r acc f = _
      rw [ih (fun y hy => h y (List.mem_cons_of_mem _ hy)) (by omega), List.filterMap_cons, e]
    | some z =>
      show mapF r (acc ++ [z]) f = _
      rw [ih (fun y hy => h y (List.mem_cons_of_mem _ hy)) (by rw [List.length_append, List.length_cons, List.length_nil]; omega), List.filterMap_cons, e]
      simp
/-- a while that ends: m falls -/
theorem Gv.whileR {P : σ → Prop} {R : σ → Prop} (m : σ → Nat) {f : σ → Rx (Lp σ ρ)} (hs : ∀ s, P s → Gv (f s) (fun l => (∃ s', l = .go s' ∧ P s' ∧ m s' < m s) ∨ ∃ s', l = .bk s' ∧ R s')) : ∀ {n : Nat} {s : σ}, P s → m s < n → Gv (Vx.whileR n s f) (fun l => ∃ s', l = .go s' ∧ R s') := by
  intro n
  induction n with
  | zero => intro s _ h; exact absurd h (Nat.not_lt_zero _)
  | succ n ih =>
    intro s p h
    refine Gv.bind (hs s p) ?_
    rintro _ (⟨s', rfl, p', l⟩ | ⟨s', rfl, r⟩)
    · exact ih p' (by omega)
    · exact .ok ⟨s', rfl, r⟩
end
theorem rng_mem {lo x : Int} {n : Nat} (h : x ∈ rng lo n) : lo ≤ x ∧ x < lo + n := by
  unfold rng at h
  obtain ⟨j, hj, rfl⟩ := List.mem_map.mp h
  have := List.mem_range.mp hj
  omega
theorem rng_at {lo x : Int} {n i : Nat} (h : (rng lo n)[i]? = some x) : x = lo + i ∧ i < n := by
  have hl := get_len h
  rw [rng_len] at hl
  rw [rng_get hl] at h
  exact ⟨(Option.some.inj h).symm, hl⟩
end Vx
namespace Vx
open PySem PySem.Spec PyProof.Rows L2
def F__law_digits_b1 (base_12 : Int) (large_13 : Bool) (cell_25 : Int) (digits_26 : (List Int)) (it29 : Int) : Rx (Int × (List Int)) :=
  (if large_13 = true then grd (0 < (base_12 : Int)) <| grd ((digits_26).length ≤ 1000000) <| bnd ((digits_26) ++ [(cell_25 % base_12)]) fun y39 => grd (0 < (base_12 : Int) ∧ (base_12 : Int) < 2 ^ 128) <| bnd ((cell_25 / base_12)) fun cell_41 => .ok ((cell_41), (y39)) else grd ((-(2 ^ 64) < ((it29 + 1) : Int) ∧ ((it29 + 1) : Int) < 2 ^ 64) ∨ (-(2 ^ 64) < ((it29 + 5) : Int) ∧ ((it29 + 5) : Int) < 2 ^ 64)) <| grd ((-(2 ^ 64) < ((cell_25 / 97) : Int) ∧ ((cell_25 / 97) : Int) < 2 ^ 64) ∨ (-(2 ^ 64) < (it29 : Int) ∧ (it29 : Int) < 2 ^ 64)) <| grd (0 < (base_12 : Int)) <| grd ((digits_26).length ≤ 1000000) <| bnd ((digits_26) ++ [(((((cell_25 * 48271) + (((it29 + 1) * (it29 + 5)) * 69621)) + ((cell_25 / 97) * it29)) % 2147483647) % base_12)]) fun y52 => .ok ((cell_25), (y52)))

def F__law_digits_r1 (cell_58 : Int) (digits_59 : (List Int)) : Rx (List Int) :=
  .ok (digits_59)

def F__law_digits (cell' : Int) (base' : Int) (most' : Int) : Rx (List Int) :=
  bnd (decide (((10 : Int) ^ Int.toNat 18) ≤ cell')) fun large_10 => grd (-(2 ^ 62) ≤ most' ∧ most' < 2 ^ 62) <| Rx.bind (forS (rng (0) (Int.toNat (most'))) ((cell'), (([] : (List Int)))) (fun s x => F__law_digits_b1 (base') (large_10) (s.1) (s.2) x)) fun s => F__law_digits_r1  (s.1) (s.2)

def F_step_of (quantizer' : Int) : Rx Int :=
  (if 0 ≤ quantizer' then (if quantizer' ≤ 31 then grd ((-(2 ^ 64) < (quantizer' : Int) ∧ (quantizer' : Int) < 2 ^ 64) ∨ (-(2 ^ 64) < (quantizer' : Int) ∧ (quantizer' : Int) < 2 ^ 64)) <| .ok (((1 + quantizer') + ((quantizer' * quantizer') / 4))) else .er 1) else .er 1)

def F__rounding_of (step' : Int) (rounding' : Int) : Rx Int :=
  (if 0 ≤ rounding' then (if rounding' ≤ 8 then grd ((-(2 ^ 64) < ((step' - 1) : Int) ∧ ((step' - 1) : Int) < 2 ^ 64) ∨ (-(2 ^ 64) < (rounding' : Int) ∧ (rounding' : Int) < 2 ^ 64)) <| .ok ((((step' - 1) * rounding') / 8)) else .er 1) else .er 1)

def F__level_of (value' : Int) (step' : Int) (more' : Int) : Rx Int :=
  grd (0 < (step' : Int) ∧ (step' : Int) < 2 ^ 128) <| bnd ((((if value' < 0 then -value' else value') + more') / step')) fun level_67 => .ok ((if value' < 0 then (-level_67) else level_67))

def F_quantize_square_c2 (step_123 : Int) (more_124 : Int) (it171 : Int) : Rx Int :=
  Rx.bind (F__level_of it171 step_123 more_124) fun v172 => .ok v172

def F_quantize_square_c1 (step_77 : Int) (more_78 : Int) (it122 : (List Int)) : Rx (List Int) :=
  Rx.bind (mapA (it122) [] (fun x => noEr (F_quantize_square_c2 (step_77) (more_78) x))) fun v125 => .ok v125

def F_quantize_square (square' : (List (List Int))) (quantizer' : Int) (rounding' : Int) : Rx (List (List Int)) :=
  Rx.bind (F_step_of quantizer') fun v75 => Rx.bind (F__rounding_of v75 rounding') fun v76 => Rx.bind (mapA (square') [] (fun x => noEr (F_quantize_square_c1 (v75) (v76) x))) fun v79 => .ok (v79)

def F_restore_square_c2 (step_263 : Int) (it310 : Int) : Rx Int :=
  grd ((-(2 ^ 64) < (it310 : Int) ∧ (it310 : Int) < 2 ^ 64) ∨ (-(2 ^ 64) < (step_263 : Int) ∧ (step_263 : Int) < 2 ^ 64)) <| .ok ((it310 * step_263))

def F_restore_square_c1 (step_218 : Int) (it262 : (List Int)) : Rx (List Int) :=
  Rx.bind (mapA (it262) [] (fun x => noEr (F_restore_square_c2 (step_218) x))) fun v264 => .ok v264

def F_restore_square (square' : (List (List Int))) (quantizer' : Int) : Rx (List (List Int)) :=
  Rx.bind (F_step_of quantizer') fun v217 => Rx.bind (mapA (square') [] (fun x => noEr (F_restore_square_c1 (v217) x))) fun v219 => .ok (v219)

def F__law_cell (script' : (List Int)) (k' : Int) : Rx Int :=
  (if k' < (((script') : (List Int)).length : Int) then grd (-((script').length : Int) ≤ k' ∧ k' < ((script').length : Int)) <| .ok ((if (itD (script') (k')) < 0 then -(itD (script') (k')) else (itD (script') (k')))) else .ok (0))

def F__law_is_square_b2 (it394 : Int) : Rx (Lp Unit Bool) :=
  .ok (.go ())

def F__law_is_square_r2  : Rx (Lp Unit Bool) :=
  .ok (.go ())

def F__law_is_square_b1 (size_359 : Int) (it378 : (List Int)) : Rx (Lp Unit Bool) :=
  (if ((((it378) : (List Int)).length : Int) : Int) = size_359 then Rx.bind (forR (it378) () (fun s x => F__law_is_square_b2   x)) fun l => l.aft (fun r => .ok (.rt r)) fun s => F__law_is_square_r2   else .ok (.rt (false)))

def F__law_is_square_r1  : Rx Bool :=
  .ok (true)

def F__law_is_square (actual' : (List (List Int))) (size' : Int) : Rx Bool :=
  (if ((((actual') : (List (List Int))).length : Int) : Int) = size' then Rx.bind (forR (actual') () (fun s x => F__law_is_square_b1 (size')  x)) fun l => l.aft Rx.ok fun s => F__law_is_square_r1   else .ok (false))

def F__law_due (value' : Int) (step' : Int) (rounding' : Int) : Rx Int :=
  grd ((-(2 ^ 64) < ((step' - 1) : Int) ∧ ((step' - 1) : Int) < 2 ^ 64) ∨ (-(2 ^ 64) < (rounding' : Int) ∧ (rounding' : Int) < 2 ^ 64)) <| grd (0 < (step' : Int) ∧ (step' : Int) < 2 ^ 128) <| bnd ((((if value' < 0 then -value' else value') + (((step' - 1) * rounding') / 8)) / step')) fun level_405 => (if value' < 0 then .ok ((-level_405)) else .ok (level_405))

def F__law_refused_k2 (told_446 : Int) : Rx Bool :=
  .ok (decide ((told_446 : Int) = 2))

def F__law_refused_k3 (told_477 : Int) : Rx Bool :=
  .ok (decide ((told_477 : Int) = 2))

def F__law_refused_k1 (rows_411 : (List (List Int))) (quantizer_412 : Int) (told_413 : Int) : Rx Bool :=
  (if 0 ≤ quantizer_412 then (if quantizer_412 ≤ 31 then .ok (decide ((told_413 : Int) = 1)) else Rx.bind ((tryR (F_restore_square (rows_411) quantizer_412) [1] (fun v450 => .ok (told_413)) (fun _ => bnd ((told_413 + 1)) fun told_472 => .ok (told_472)) : Rx (Int))) fun s => F__law_refused_k2  s) else Rx.bind ((tryR (F_restore_square (rows_411) quantizer_412) [1] (fun v481 => .ok (told_413)) (fun _ => bnd ((told_413 + 1)) fun told_503 => .ok (told_503)) : Rx (Int))) fun s => F__law_refused_k3  s)

def F__law_refused (rows' : (List (List Int))) (quantizer' : Int) (rounding' : Int) : Rx Bool :=
  Rx.bind ((tryR (F_quantize_square (rows') quantizer' rounding') [1] (fun v417 => .ok (0)) (fun _ => bnd ((0 + 1)) fun told_439 => .ok (told_439)) : Rx (Int))) fun s => F__law_refused_k1 (rows') (quantizer') s

def F_law_c3 (size_599 : Int) (most_600 : Int) (digits_601 : (List Int)) (j_602 : Int) (it635 : Int) : Rx Int :=
  grd ((-(2 ^ 64) < (j_602 : Int) ∧ (j_602 : Int) < 2 ^ 64) ∨ (-(2 ^ 64) < (size_599 : Int) ∧ (size_599 : Int) < 2 ^ 64)) <| grd (-((digits_601).length : Int) ≤ ((j_602 * size_599) + it635) ∧ ((j_602 * size_599) + it635) < ((digits_601).length : Int)) <| .ok (((itD (digits_601) (((j_602 * size_599) + it635))) - most_600))

def F_law_c2 (size_564 : Int) (most_565 : Int) (digits_566 : (List Int)) (it597 : Int) : Rx (List Int) :=
  grd (-(2 ^ 62) ≤ size_564 ∧ size_564 < 2 ^ 62) <| Rx.bind (mapA (rng (0) (Int.toNat (size_564))) [] (fun x => noEr (F_law_c3 (size_564) (most_565) (digits_566) (it597) x))) fun v603 => .ok v603

def F_law_b5 (rounding_820 : Int) (rows_821 : (List (List Int))) (step_822 : Int) (levels_823 : (List (List Int))) (usual_824 : (List (List Int))) (values_825 : (List (List Int))) (j_826 : Int) (it846 : Int) : Rx (Lp Unit Bool) :=
  grd (-((rows_821).length : Int) ≤ j_826 ∧ j_826 < ((rows_821).length : Int)) <| grd (-(((itD (rows_821) (j_826))).length : Int) ≤ it846 ∧ it846 < (((itD (rows_821) (j_826))).length : Int)) <| Rx.bind (F__law_due ((itD ((itD (rows_821) (j_826))) (it846))) step_822 rounding_820) fun v854 => grd (-((levels_823).length : Int) ≤ j_826 ∧ j_826 < ((levels_823).length : Int)) <| grd (-(((itD (levels_823) (j_826))).length : Int) ≤ it846 ∧ it846 < (((itD (levels_823) (j_826))).length : Int)) <| (if ((itD ((itD (levels_823) (j_826))) (it846)) : Int) = v854 then grd (-((usual_824).length : Int) ≤ j_826 ∧ j_826 < ((usual_824).length : Int)) <| grd (-(((itD (usual_824) (j_826))).length : Int) ≤ it846 ∧ it846 < (((itD (usual_824) (j_826))).length : Int)) <| grd (-((rows_821).length : Int) ≤ j_826 ∧ j_826 < ((rows_821).length : Int)) <| grd (-(((itD (rows_821) (j_826))).length : Int) ≤ it846 ∧ it846 < (((itD (rows_821) (j_826))).length : Int)) <| Rx.bind (F__law_due ((itD ((itD (rows_821) (j_826))) (it846))) step_822 4) fun v883 => (if ((itD ((itD (usual_824) (j_826))) (it846)) : Int) = v883 then grd (-((values_825).length : Int) ≤ j_826 ∧ j_826 < ((values_825).length : Int)) <| grd (-(((itD (values_825) (j_826))).length : Int) ≤ it846 ∧ it846 < (((itD (values_825) (j_826))).length : Int)) <| grd ((-(2 ^ 64) < (v854 : Int) ∧ (v854 : Int) < 2 ^ 64) ∨ (-(2 ^ 64) < (step_822 : Int) ∧ (step_822 : Int) < 2 ^ 64)) <| (if ((itD ((itD (values_825) (j_826))) (it846)) : Int) = (v854 * step_822) then .ok (.go ()) else .ok (.rt (false))) else .ok (.rt (false))) else .ok (.rt (false)))

def F_law_r5  : Rx (Lp Unit Bool) :=
  .ok (.go ())

def F_law_b4 (size_775 : Int) (rounding_776 : Int) (rows_777 : (List (List Int))) (step_778 : Int) (levels_779 : (List (List Int))) (usual_780 : (List (List Int))) (values_781 : (List (List Int))) (it818 : Int) : Rx (Lp Unit Bool) :=
  grd (-(2 ^ 62) ≤ size_775 ∧ size_775 < 2 ^ 62) <| Rx.bind (forR (rng (0) (Int.toNat (size_775))) () (fun s x => F_law_b5 (rounding_776) (rows_777) (step_778) (levels_779) (usual_780) (values_781) (it818)  x)) fun l => l.aft (fun r => .ok (.rt r)) fun s => F_law_r5  

def F_law_r4 (cell_782 : Int) (size_783 : Int) (quantizer_784 : Int) (rounding_785 : Int) (rows_786 : (List (List Int))) (kept_787 : Str) (levels_788 : (List (List Int))) (usual_789 : (List (List Int))) (told_790 : Str) (values_791 : (List (List Int))) : Rx (Lp Unit Bool) :=
  grd (ShowOk ((encL (encL (encL PyData.int))) ([values_791, usual_789]))) <| grd (0 < (size_783 : Int)) <| grd (-((levels_788).length : Int) ≤ (cell_782 % size_783) ∧ (cell_782 % size_783) < ((levels_788).length : Int)) <| grd (-(((itD (levels_788) ((cell_782 % size_783)))).length : Int) ≤ 0 ∧ 0 < (((itD (levels_788) ((cell_782 % size_783)))).length : Int)) <| grd (0 < (size_783 : Int)) <| grd (-((levels_788).length : Int) ≤ (cell_782 % size_783) ∧ (cell_782 % size_783) < ((levels_788).length : Int)) <| grd (-(((itD (levels_788) ((cell_782 % size_783)))).length : Int) ≤ 0 ∧ 0 < (((itD (levels_788) ((cell_782 % size_783)))).length : Int)) <| bnd (setL (levels_788) ((cell_782 % size_783)) (setL ((itD (levels_788) ((cell_782 % size_783)))) (0) (((itD ((itD (levels_788) ((cell_782 % size_783)))) (0)) + 1)))) fun y966 => grd (ShowOk ((encL (encL PyData.int)) (rows_786))) <| (if V.str ((PyData.shown ((encL (encL PyData.int)) (rows_786)))) = V.str (kept_787) then grd (ShowOk ((encL (encL (encL PyData.int))) ([values_791, usual_789]))) <| (if V.str ((PyData.shown ((encL (encL (encL PyData.int))) ([values_791, usual_789])))) = V.str ((PyData.shown ((encL (encL (encL PyData.int))) ([values_791, usual_789])))) then grd (ShowOk ((encL (encL PyData.int)) (y966))) <| grd (-((values_791).length : Int) ≤ 0 ∧ 0 < ((values_791).length : Int)) <| grd (0 < (size_783 : Int)) <| grd (-(((itD (values_791) (0))).length : Int) ≤ (cell_782 % size_783) ∧ (cell_782 % size_783) < (((itD (values_791) (0))).length : Int)) <| grd (-((values_791).length : Int) ≤ 0 ∧ 0 < ((values_791).length : Int)) <| grd (0 < (size_783 : Int)) <| grd (-(((itD (values_791) (0))).length : Int) ≤ (cell_782 % size_783) ∧ (cell_782 % size_783) < (((itD (values_791) (0))).length : Int)) <| bnd (setL (values_791) (0) (setL ((itD (values_791) (0))) ((cell_782 % size_783)) (((itD ((itD (values_791) (0))) ((cell_782 % size_783))) + 1)))) fun y1017 => grd (-((usual_789).length : Int) ≤ 0 ∧ 0 < ((usual_789).length : Int)) <| grd (-(((itD (usual_789) (0))).length : Int) ≤ 0 ∧ 0 < (((itD (usual_789) (0))).length : Int)) <| grd (-((usual_789).length : Int) ≤ 0 ∧ 0 < ((usual_789).length : Int)) <| grd (-(((itD (usual_789) (0))).length : Int) ≤ 0 ∧ 0 < (((itD (usual_789) (0))).length : Int)) <| bnd (setL (usual_789) (0) (setL ((itD (usual_789) (0))) (0) (((itD ((itD (usual_789) (0))) (0)) + 1)))) fun y1047 => grd (ShowOk ((encL (encL PyData.int)) (rows_786))) <| (if V.str ((PyData.shown ((encL (encL PyData.int)) (rows_786)))) = V.str (kept_787) then grd (ShowOk ((encL (encL PyData.int)) (y966))) <| (if V.str ((PyData.shown ((encL (encL PyData.int)) (y966)))) = V.str ((PyData.shown ((encL (encL PyData.int)) (y966)))) then Rx.bind (F__law_refused (([] : (List (List Int)))) ((32 + (cell_782 % 5))) rounding_785) fun v1065 => (if v1065 = true then Rx.bind (F__law_refused (([] : (List (List Int)))) quantizer_784 ((9 + (cell_782 % 4)))) fun v1080 => (if v1080 = true then Rx.bind (F_quantize_square (([] : (List (List Int)))) quantizer_784 rounding_785) fun v1095 => (if (v1095 : (List (List Int))) = ([] : (List (List Int))) then Rx.bind (F_restore_square (([] : (List (List Int)))) quantizer_784) fun v1137 => (if (v1137 : (List (List Int))) = ([] : (List (List Int))) then Rx.bind (F__law_refused (rows_786) ((32 + (cell_782 % 5))) rounding_785) fun v1170 => (if v1170 = true then Rx.bind (F__law_refused (rows_786) (((-1) - (cell_782 % 5))) rounding_785) fun v1176 => (if v1176 = true then Rx.bind (F__law_refused (rows_786) quantizer_784 ((9 + (cell_782 % 4)))) fun v1182 => (if v1182 = true then Rx.bind (F__law_refused (rows_786) quantizer_784 (((-1) - (cell_782 % 4)))) fun v1188 => (if v1188 = true then .ok (.go ()) else .ok (.rt (false))) else .ok (.rt (false))) else .ok (.rt (false))) else .ok (.rt (false))) else .ok (.rt (false))) else .ok (.rt (false))) else .ok (.rt (false))) else .ok (.rt (false))) else .ok (.rt (false))) else .ok (.rt (false))) else .ok (.rt (false))) else .ok (.rt (false)))

def F_law_b1 (script_509 : (List Int)) (it536 : Int) : Rx (Lp Unit Bool) :=
  Rx.bind (F__law_cell (script_509) it536) fun v537 => bnd ((v537 + it536)) fun cell_538 => bnd ((4 + (4 * (cell_538 % 2)))) fun size_539 => bnd (((cell_538 / 2) % 32)) fun quantizer_540 => bnd (((cell_538 / 64) % 9)) fun rounding_541 => grd (-(([9, 300, 262144]).length : Int) ≤ ((cell_538 / 3) % 3) ∧ ((cell_538 / 3) % 3) < (([9, 300, 262144]).length : Int)) <| bnd ((itD ([9, 300, 262144]) (((cell_538 / 3) % 3)))) fun most_552 => grd ((-(2 ^ 64) < (size_539 : Int) ∧ (size_539 : Int) < 2 ^ 64) ∨ (-(2 ^ 64) < (size_539 : Int) ∧ (size_539 : Int) < 2 ^ 64)) <| Rx.bind (F__law_digits cell_538 (((2 * most_552) + 1)) ((size_539 * size_539))) fun v554 => grd (-(2 ^ 62) ≤ size_539 ∧ size_539 < 2 ^ 62) <| Rx.bind (mapA (rng (0) (Int.toNat (size_539))) [] (fun x => noEr (F_law_c2 (size_539) (most_552) (v554) x))) fun v567 => grd (ShowOk ((encL (encL PyData.int)) (v567))) <| grd ((-(2 ^ 64) < (quantizer_540 : Int) ∧ (quantizer_540 : Int) < 2 ^ 64) ∨ (-(2 ^ 64) < (quantizer_540 : Int) ∧ (quantizer_540 : Int) < 2 ^ 64)) <| bnd (((1 + quantizer_540) + ((quantizer_540 * quantizer_540) / 4))) fun step_686 => Rx.bind (F_quantize_square (v567) quantizer_540 rounding_541) fun v687 => Rx.bind (F_quantize_square (v567) quantizer_540 4) fun v707 => Rx.bind (F__law_is_square (v687) size_539) fun v728 => (if v728 = true then Rx.bind (F__law_is_square (v707) size_539) fun v735 => (if v735 = true then grd (ShowOk ((encL (encL PyData.int)) (v567))) <| (if V.str ((PyData.shown ((encL (encL PyData.int)) (v567)))) = V.str ((PyData.shown ((encL (encL PyData.int)) (v567)))) then grd (ShowOk ((encL (encL PyData.int)) (v687))) <| Rx.bind (F_restore_square (v687) quantizer_540) fun v746 => Rx.bind (F__law_is_square (v746) size_539) fun v765 => (if v765 = true then grd (ShowOk ((encL (encL PyData.int)) (v687))) <| (if V.str ((PyData.shown ((encL (encL PyData.int)) (v687)))) = V.str ((PyData.shown ((encL (encL PyData.int)) (v687)))) then grd (-(2 ^ 62) ≤ size_539 ∧ size_539 < 2 ^ 62) <| Rx.bind (forR (rng (0) (Int.toNat (size_539))) () (fun s x => F_law_b4 (size_539) (rounding_541) (v567) (step_686) (v687) (v707) (v746)  x)) fun l => l.aft (fun r => .ok (.rt r)) fun s => F_law_r4 (cell_538) (size_539) (quantizer_540) (rounding_541) (v567) ((PyData.shown ((encL (encL PyData.int)) (v567)))) (v687) (v707) ((PyData.shown ((encL (encL PyData.int)) (v687)))) (v746)  else .ok (.rt (false))) else .ok (.rt (false))) else .ok (.rt (false))) else .ok (.rt (false))) else .ok (.rt (false)))

def F_law_r1  : Rx Bool :=
  .ok (true)

def F_law (script' : (List Int)) : Rx Bool :=
  grd (-(2 ^ 62) ≤ (if 6 < (1 + (((script') : (List Int)).length : Int)) then 6 else (1 + (((script') : (List Int)).length : Int))) ∧ (if 6 < (1 + (((script') : (List Int)).length : Int)) then 6 else (1 + (((script') : (List Int)).length : Int))) < 2 ^ 62) <| Rx.bind (forR (rng (0) (Int.toNat ((if 6 < (1 + (((script') : (List Int)).length : Int)) then 6 else (1 + (((script') : (List Int)).length : Int)))))) () (fun s x => F_law_b1 (script')  x)) fun l => l.aft Rx.ok fun s => F_law_r1  
theorem cell_gv (s : List Int) (k : Int) (h : 0 ≤ k) : Gv (F__law_cell s k) (fun v => 0 ≤ v) := by
  unfold F__law_cell
  refine Gv.ite (fun c => Gv.grd ⟨by omega, c⟩ (.ok ?_)) fun _ => .ok (by decide)
  split <;> omega
theorem all_snoc {P : Int → Prop} {xs : List Int} {y : Int} (h : ∀ x ∈ xs, P x) (hy : P y) : ∀ x ∈ xs ++ [y], P x := fun x hx => by
  rcases List.mem_append.mp hx with q | q
  · exact h x q
  · rw [List.mem_singleton.mp q]
    exact hy
theorem digits_gv (cell base most : Int) (h0 : 0 < base) (h1 : base < 2 ^ 64) (hm : 0 ≤ most) (hm2 : most ≤ 1000) : Gv (F__law_digits cell base most) (fun v => (v.length : Int) = most ∧ ∀ x ∈ v, 0 ≤ x ∧ x < base) := by
  unfold F__law_digits
  refine Gv.bnd fun large _ => Gv.grd ⟨by omega, by omega⟩ (Gv.bind (Gv.forS (P := fun i s => s.2.length = i ∧ ∀ x ∈ s.2, 0 ≤ x ∧ x < base) ⟨rfl, fun x hx => by cases hx⟩ fun i x s hx p => ?_) fun s p => .ok ⟨?_, p.2⟩)
  · obtain ⟨rfl, hi⟩ := rng_at hx
    have hl := p.1
    unfold F__law_digits_b1
    refine Gv.ite (fun _ => Gv.grd h0 (Gv.grd (by omega) (Gv.bnd fun y hy => Gv.grd ⟨h0, by omega⟩ (Gv.bnd fun c _ => .ok ?_)))) fun _ => Gv.grd ?_ (Gv.grd ?_ (Gv.grd h0 (Gv.grd (by omega) (Gv.bnd fun y hy => .ok ?_))))
    · subst hy
      exact ⟨by rw [List.length_append, hl]; rfl, all_snoc p.2 ⟨Int.emod_nonneg _ (by omega), Int.emod_lt_of_pos _ h0⟩⟩
    · left
      omega
    · right
      omega
    · subst hy
      exact ⟨by rw [List.length_append, hl]; rfl, all_snoc p.2 ⟨Int.emod_nonneg _ (by omega), Int.emod_lt_of_pos _ h0⟩⟩
  · have := p.1
    rw [rng_len] at this
    omega
theorem itD_some {α : Type} [Inhabited α] {xs : List α} {k : Int} (h : -(xs.length : Int) ≤ k ∧ k < xs.length) : ∃ j : Nat, xs[j]? = some (itD xs k) := by
  obtain ⟨j, e, hj⟩ := ixN_some h
  refine ⟨j, ?_⟩
  unfold itD atI
  rw [e, List.getElem?_eq_getElem hj]
  show some xs[j] = some ((xs[j]?).getD default)
  rw [List.getElem?_eq_getElem hj] <;> rfl
theorem itD_mem {α : Type} [Inhabited α] {xs : List α} {k : Int} (h : -(xs.length : Int) ≤ k ∧ k < xs.length) : itD xs k ∈ xs := by
  obtain ⟨j, e⟩ := itD_some h
  exact List.mem_of_getElem? e
theorem itD_map {α β : Type} [Inhabited α] [Inhabited β] {xs : List α} {f : α → β} {k : Int} (h : -(xs.length : Int) ≤ k ∧ k < xs.length) : itD (xs.map f) k = f (itD xs k) := by
  obtain ⟨j, e, hj⟩ := ixN_some h
  unfold itD atI
  rw [List.length_map, e]
  show ((xs.map f)[j]?).getD default = f ((xs[j]?).getD default)
  rw [List.getElem?_map, List.getElem?_eq_getElem hj] <;> rfl
theorem itD_nat {α : Type} [Inhabited α] {xs : List α} {k : Int} {j : Nat} (e : k = (j : Int)) (h : j < xs.length) : itD xs k = xs[j] := by
  subst e
  unfold itD atI ixN
  rw [if_pos (by omega), if_pos (by omega)]
  show (xs[j]?).getD default = _
  rw [List.getElem?_eq_getElem h] <;> rfl
theorem setL_mem {α : Type} {xs : List α} {k : Int} {y z : α} (h : z ∈ setL xs k y) : z ∈ xs ∨ z = y := by
  unfold setL at h
  exact List.mem_or_eq_of_mem_set h
theorem setL_len {α : Type} {xs : List α} {k : Int} {y : α} : (setL xs k y).length = xs.length := by
  unfold setL
  rw [List.length_set]
theorem sq_b {q : Int} (h0 : 0 ≤ q) (h1 : q ≤ 31) : 0 ≤ q * q ∧ q * q ≤ 961 := ⟨Int.mul_nonneg h0 h0, by
  have := Int.mul_le_mul h1 h1 h0 (by decide : (0 : Int) ≤ 31)
  omega⟩
def stp (q : Int) : Int := (1 + q) + (q * q) / 4
theorem stp_b {q : Int} (h0 : 0 ≤ q) (h1 : q ≤ 31) : 0 < stp q ∧ stp q < 1000 := by
  have := sq_b h0 h1
  unfold stp
  omega
theorem step_ok {q : Int} (h0 : 0 ≤ q) (h1 : q ≤ 31) : F_step_of q = .ok (stp q) := by
  unfold F_step_of
  rw [if_pos h0, if_pos h1, grd_pos (.inl ⟨by omega, by omega⟩)]
  rfl
theorem step_er {q : Int} (h : q < 0 ∨ 31 < q) : F_step_of q = .er 1 := by
  unfold F_step_of
  split
  · rw [if_neg (by omega)]
  · rfl
def lev (v st m : Int) : Int := if v < 0 then -(((if v < 0 then -v else v) + m) / st) else ((if v < 0 then -v else v) + m) / st
theorem more_b {st r : Int} (h : 0 < st) (r0 : 0 ≤ r) (r1 : r ≤ 8) : 0 ≤ (st - 1) * r / 8 ∧ (st - 1) * r / 8 ≤ st - 1 := by
  have a : 0 ≤ (st - 1) * r := Int.mul_nonneg (by omega) r0
  have b : (st - 1) * r ≤ (st - 1) * 8 := Int.mul_le_mul_of_nonneg_left r1 (by omega)
  omega
theorem lev_b {v st m B : Int} (h : 0 < st) (m0 : 0 ≤ m) (m1 : m ≤ 1000) (hv : -B ≤ v ∧ v ≤ B) : -(B + 1000) ≤ lev v st m ∧ lev v st m ≤ B + 1000 := by
  have a : ∀ n : Int, 0 ≤ n → 0 ≤ n / st ∧ n / st ≤ n := fun n hn => ⟨Int.ediv_nonneg hn (by omega), Int.ediv_le_self _ hn⟩
  unfold lev
  split
  · have := a (-v + m) (by omega)
    omega
  · have := a (v + m) (by omega)
    omega
def Sqr (n : Nat) (B : Int) (rows : List (List Int)) : Prop := rows.length = n ∧ ∀ r ∈ rows, r.length = n ∧ ∀ x ∈ r, -B ≤ x ∧ x ≤ B
theorem Sqr.sm {n : Nat} {B : Int} {rows : List (List Int)} (h : Sqr n B rows) (hn : n ≤ 8) (hB : B ≤ 1000000000000) : Sm 73 2 (encL (encL PyData.int) rows) := by
  refine sm_L (n := 9) (m := 8) (fun r hr => sm_ints (m := 8) (fun x hx => ?_) ?_) (by rw [h.1]; exact hn)
  · have := (h.2 r hr).2 x hx
    omega
  · rw [(h.2 r hr).1]
    exact hn
theorem Sqr.show {n : Nat} {B : Int} {rows : List (List Int)} (h : Sqr n B rows) (hn : n ≤ 8) (hB : B ≤ 1000000000000) : ShowOk (encL (encL PyData.int) rows) := (h.sm hn hB).show
theorem Sqr.show2 {n : Nat} {B : Int} {rows rows2 : List (List Int)} (h : Sqr n B rows) (h2 : Sqr n B rows2) (hn : n ≤ 8) (hB : B ≤ 1000000000000) : ShowOk (encL (encL (encL PyData.int)) [rows, rows2]) := by
  have key : Sm (1 + 2 * 73) 3 (encL (encL (encL PyData.int)) [rows, rows2]) := sm_L (n := 73) (k := 2) (m := 2) (fun r hr => ?_) (Nat.le_refl 2)
  · exact key.show
  rcases List.mem_cons.mp hr with rfl | hr
  · exact h.sm hn hB
  · rcases List.mem_cons.mp hr with rfl | hr
    · exact h2.sm hn hB
    · cases hr
theorem Sqr.row {n : Nat} {B : Int} {rows : List (List Int)} (h : Sqr n B rows) {k : Int} (h0 : 0 ≤ k) (h1 : k < n) : (-(rows.length : Int) ≤ k ∧ k < rows.length) ∧ (itD rows k).length = n ∧ ∀ x ∈ itD rows k, -B ≤ x ∧ x ≤ B := by
  have hk : -(rows.length : Int) ≤ k ∧ k < rows.length := by
    rw [h.1]
    omega
  exact ⟨hk, h.2 _ (itD_mem hk)⟩
theorem Sqr.set {n : Nat} {B : Int} {rows : List (List Int)} {k : Int} {r : List Int} (h : Sqr n B rows) (hr : r.length = n ∧ ∀ x ∈ r, -B ≤ x ∧ x ≤ B) : Sqr n B (setL rows k r) := by
  refine ⟨by rw [setL_len]; exact h.1, fun r2 h2 => ?_⟩
  rcases setL_mem h2 with q | q
  · exact h.2 r2 q
  · subst q
    exact hr
theorem Sqr.imp {n : Nat} {B C : Int} {rows : List (List Int)} (h : Sqr n B rows) (c : B ≤ C) : Sqr n C rows := ⟨h.1, fun r hr => ⟨(h.2 r hr).1, fun x hx => by have := (h.2 r hr).2 x hx; omega⟩⟩
theorem Sqr.map {n : Nat} {B C : Int} {rows : List (List Int)} {f : Int → Int} (h : Sqr n B rows) (hf : ∀ x, -B ≤ x ∧ x ≤ B → -C ≤ f x ∧ f x ≤ C) : Sqr n C (rows.map fun r => r.map f) := by
  refine ⟨by rw [List.length_map]; exact h.1, fun r hr => ?_⟩
  obtain ⟨s, hs, rfl⟩ := List.mem_map.mp hr
  refine ⟨by rw [List.length_map]; exact (h.2 s hs).1, fun x hx => ?_⟩
  obtain ⟨y, hy, rfl⟩ := List.mem_map.mp hx
  exact hf y ((h.2 s hs).2 y hy)
/-- one number of a square raised by one -/
theorem Sqr.bump {n : Nat} {B : Int} {rows : List (List Int)} {j i : Int} (h : Sqr n B rows) (h0 : 0 ≤ j) (h1 : j < n) (i0 : 0 ≤ i) (i1 : i < n) : Sqr n (B + 1) (setL rows j (setL (itD rows j) i (itD (itD rows j) i + 1))) := by
  obtain ⟨_, hl, hb⟩ := h.row h0 h1
  refine (h.imp (by omega)).set ⟨by rw [setL_len]; exact hl, fun x hx => ?_⟩
  rcases setL_mem hx with q | q
  · have := hb x q
    omega
  · have := hb _ (itD_mem (xs := itD rows j) (k := i) (by rw [hl]; omega))
    omega
theorem level_ok {v st m : Int} (h : 0 < st) (h2 : st < 1000) : F__level_of v st m = .ok (lev v st m) := by
  unfold F__level_of
  rw [grd_pos ⟨h, by omega⟩]
  rfl
theorem rounding_ok {st r : Int} (h : 0 < st) (h2 : st < 1000) (r0 : 0 ≤ r) (r1 : r ≤ 8) : F__rounding_of st r = .ok ((st - 1) * r / 8) := by
  unfold F__rounding_of
  rw [if_pos r0, if_pos r1, grd_pos (.inl ⟨by omega, by omega⟩)]
theorem rounding_er {st r : Int} (h : r < 0 ∨ 8 < r) : F__rounding_of st r = .er 1 := by
  unfold F__rounding_of
  split
  · rw [if_neg (by omega)]
  · rfl
def qsq (q r : Int) (rows : List (List Int)) : List (List Int) := rows.map fun row => row.map fun v => lev v (stp q) ((stp q - 1) * r / 8)
def rsq (q : Int) (rows : List (List Int)) : List (List Int) := rows.map fun row => row.map fun v => v * stp q
theorem quant_ok {n : Nat} {B : Int} {rows : List (List Int)} {q r : Int} (h : Sqr n B rows) (hn : n ≤ 8) (h0 : 0 ≤ q) (h1 : q ≤ 31) (r0 : 0 ≤ r) (r1 : r ≤ 8) : F_quantize_square rows q r = .ok (qsq q r rows) := by
  have hs := stp_b h0 h1
  unfold F_quantize_square
  rw [step_ok h0 h1, bind_ok, rounding_ok hs.1 hs.2 r0 r1, bind_ok, mapA_pure0 (g := fun row : List Int => row.map fun v => lev v (stp q) ((stp q - 1) * r / 8)) (fun row hr => ?_) (by rw [h.1]; omega)]
  · rfl
  · unfold F_quantize_square_c1
    rw [mapA_pure0 (g := fun v => lev v (stp q) ((stp q - 1) * r / 8)) (fun v _ => ?_) (by rw [(h.2 row hr).1]; omega)]
    · rfl
    · unfold F_quantize_square_c2
      rw [level_ok hs.1 hs.2]
      rfl
theorem quant_nil {q r : Int} (h0 : 0 ≤ q) (h1 : q ≤ 31) (r0 : 0 ≤ r) (r1 : r ≤ 8) : F_quantize_square [] q r = .ok [] := by
  have hs := stp_b h0 h1
  unfold F_quantize_square
  rw [step_ok h0 h1, bind_ok, rounding_ok hs.1 hs.2 r0 r1]
  rfl
theorem quant_er {rows : List (List Int)} {q r : Int} (h : q < 0 ∨ 31 < q ∨ r < 0 ∨ 8 < r) : F_quantize_square rows q r = .er 1 := by
  unfold F_quantize_square
  by_cases c : q < 0 ∨ 31 < q
  · rw [step_er c]
    rfl
  · rw [step_ok (by omega) (by omega), bind_ok, rounding_er (by omega)]
    rfl
theorem restore_ok {n : Nat} {B : Int} {rows : List (List Int)} {q : Int} (h : Sqr n B rows) (hn : n ≤ 8) (h0 : 0 ≤ q) (h1 : q ≤ 31) : F_restore_square rows q = .ok (rsq q rows) := by
  have hs := stp_b h0 h1
  unfold F_restore_square
  rw [step_ok h0 h1, bind_ok, mapA_pure0 (g := fun row : List Int => row.map fun v => v * stp q) (fun row hr => ?_) (by rw [h.1]; omega)]
  · rfl
  · unfold F_restore_square_c1
    rw [mapA_pure0 (g := fun v => v * stp q) (fun v _ => ?_) (by rw [(h.2 row hr).1]; omega)]
    · rfl
    · unfold F_restore_square_c2
      rw [grd_pos (.inr ⟨by omega, by omega⟩)]
      rfl
theorem restore_nil {q : Int} (h0 : 0 ≤ q) (h1 : q ≤ 31) : F_restore_square [] q = .ok [] := by
  unfold F_restore_square
  rw [step_ok h0 h1]
  rfl
theorem restore_er {rows : List (List Int)} {q : Int} (h : q < 0 ∨ 31 < q) : F_restore_square rows q = .er 1 := by
  unfold F_restore_square
  rw [step_er h]
  rfl
theorem square_ok {n : Nat} {B s : Int} {rows : List (List Int)} (h : Sqr n B rows) (hs : s = n) : F__law_is_square rows s = .ok true := by
  unfold F__law_is_square
  rw [if_pos (by rw [h.1, hs]), forR_unit fun row hr => ?_]
  · rfl
  · show F__law_is_square_b1 s row = _
    unfold F__law_is_square_b1
    rw [if_pos (by rw [(h.2 row hr).1, hs]), forR_unit fun _ _ => rfl]
    rfl
theorem refused_q {rows : List (List Int)} {q r : Int} (h : q < 0 ∨ 31 < q) : F__law_refused rows q r = .ok true := by
  unfold F__law_refused
  rw [quant_er (by omega), tryR_er (by simp)]
  show F__law_refused_k1 rows q (0 + 1) = _
  unfold F__law_refused_k1
  by_cases c : 0 ≤ q
  · rw [if_pos c, if_neg (by omega), restore_er h, tryR_er (by simp)]
    rfl
  · rw [if_neg c, restore_er h, tryR_er (by simp)]
    rfl
theorem refused_r {rows : List (List Int)} {q r : Int} (h0 : 0 ≤ q) (h1 : q ≤ 31) (h : r < 0 ∨ 8 < r) : F__law_refused rows q r = .ok true := by
  unfold F__law_refused
  rw [quant_er (by omega), tryR_er (by simp)]
  show F__law_refused_k1 rows q (0 + 1) = _
  unfold F__law_refused_k1
  rw [if_pos h0, if_pos h1]
  rfl
theorem due_ok {v st r : Int} (h : 0 < st) (h2 : st < 1000) : F__law_due v st r = .ok (lev v st ((st - 1) * r / 8)) := by
  unfold F__law_due lev
  rw [grd_pos (.inl ⟨by omega, by omega⟩), grd_pos ⟨h, by omega⟩, bnd_eq]
  split <;> rfl
theorem at2 {n : Nat} {B : Int} {rows : List (List Int)} {f : Int → Int} {j i : Int} (h : Sqr n B rows) (j0 : 0 ≤ j) (j1 : j < n) (i0 : 0 ≤ i) (i1 : i < n) : itD (itD (rows.map fun r => r.map f) j) i = f (itD (itD rows j) i) := by
  obtain ⟨hk, hl, _⟩ := h.row j0 j1
  rw [itD_map hk, itD_map (by rw [hl]; omega)]
theorem b5_ok {n : Nat} {rows : List (List Int)} {q r j i : Int} (h : Sqr n 262144 rows) (hn : n ≤ 8) (h0 : 0 ≤ q) (h1 : q ≤ 31) (r0 : 0 ≤ r) (r1 : r ≤ 8) (j0 : 0 ≤ j) (j1 : j < n) (i0 : 0 ≤ i) (i1 : i < n) :
    F_law_b5 r rows (stp q) (qsq q r rows) (qsq q 4 rows) (rsq q (qsq q r rows)) j i = .ok (.go ()) := by
  have hs := stp_b h0 h1
  have hm := more_b hs.1 r0 r1
  have ix : ∀ {C : Int} {xs : List (List Int)}, Sqr n C xs → (-(xs.length : Int) ≤ j ∧ j < xs.length) ∧ (-((itD xs j).length : Int) ≤ i ∧ i < (itD xs j).length) := fun {C xs} hx => by
    obtain ⟨a, b, _⟩ := hx.row j0 j1
    exact ⟨a, by rw [b]; omega⟩
  have sl : Sqr n (262144 + 1000) (qsq q r rows) := h.map fun x hx => lev_b hs.1 hm.1 (by omega) hx
  have su : Sqr n (262144 + 1000) (qsq q 4 rows) := by
    have hm4 := more_b (r := 4) hs.1 (by decide) (by decide)
    exact h.map fun x hx => lev_b hs.1 hm4.1 (by omega) hx
  have sv : (-(((rsq q (qsq q r rows)).length : Nat) : Int) ≤ j ∧ j < (rsq q (qsq q r rows)).length) ∧ (-((itD (rsq q (qsq q r rows)) j).length : Int) ≤ i ∧ i < (itD (rsq q (qsq q r rows)) j).length) := by
    obtain ⟨a, b⟩ := ix sl
    refine ⟨by unfold rsq; rw [List.length_map]; exact a, ?_⟩
    unfold rsq
    rw [itD_map a, List.length_map]
    exact b
  have e1 : itD (itD (qsq q r rows) j) i = lev (itD (itD rows j) i) (stp q) ((stp q - 1) * r / 8) := at2 h j0 j1 i0 i1
  have e2 : itD (itD (qsq q 4 rows) j) i = lev (itD (itD rows j) i) (stp q) ((stp q - 1) * 4 / 8) := at2 h j0 j1 i0 i1
  have e3 : itD (itD (rsq q (qsq q r rows)) j) i = itD (itD (qsq q r rows) j) i * stp q := at2 sl j0 j1 i0 i1
  unfold F_law_b5
  rw [grd_pos (ix h).1, grd_pos (ix h).2, due_ok hs.1 hs.2, bind_ok, grd_pos (ix sl).1, grd_pos (ix sl).2, if_pos e1, grd_pos (ix su).1, grd_pos (ix su).2, grd_pos (ix h).1, grd_pos (ix h).2, due_ok hs.1 hs.2, bind_ok, if_pos e2,
    grd_pos sv.1, grd_pos sv.2, grd_pos (.inr ⟨by omega, by omega⟩), if_pos (by rw [e3, e1])]
theorem ix00 {n : Nat} {B : Int} {rows : List (List Int)} (h : Sqr n B rows) {j i : Int} (j0 : 0 ≤ j) (j1 : j < n) (i0 : 0 ≤ i) (i1 : i < n) : (-(rows.length : Int) ≤ j ∧ j < rows.length) ∧ (-((itD rows j).length : Int) ≤ i ∧ i < (itD rows j).length) := by
  obtain ⟨a, b, _⟩ := h.row j0 j1
  exact ⟨a, by rw [b]; omega⟩
theorem r4_ok {n : Nat} {B cell s q r : Int} {rows levels usual values : List (List Int)} (h : Sqr n B rows) (sl : Sqr n B levels) (su : Sqr n B usual) (sv : Sqr n B values) (hB : B ≤ 100000000000) (hn : n ≤ 8) (hn0 : 0 < n) (hs : s = n) (h0 : 0 ≤ q) (h1 : q ≤ 31) (r0 : 0 ≤ r) (r1 : r ≤ 8) :
    F_law_r4 cell s q r rows (PyData.shown (encL (encL PyData.int) rows)) levels usual (PyData.shown (encL (encL PyData.int) levels)) values = .ok (.go ()) := by
  subst hs
  have c0 : 0 ≤ cell % (n : Int) := Int.emod_nonneg _ (by omega)
  have c1 : cell % (n : Int) < n := Int.emod_lt_of_pos _ (by omega)
  have z1 : (0 : Int) < n := by omega
  obtain ⟨a1, a2⟩ := ix00 sl c0 c1 (Int.le_refl 0) z1
  obtain ⟨b1, b2⟩ := ix00 sv (Int.le_refl 0) z1 c0 c1
  obtain ⟨d1, d2⟩ := ix00 su (Int.le_refl 0) z1 (Int.le_refl 0) z1
  have y := sl.bump c0 c1 (Int.le_refl 0) z1
  refine Gv.get ?_
  unfold F_law_r4
  refine Gv.grd (sv.show2 su hn (by omega)) (Gv.grd z1 (Gv.grd a1 (Gv.grd a2 (Gv.grd z1 (Gv.grd a1 (Gv.grd a2 (Gv.bnd fun y966 hy => ?_)))))))
  subst hy
  refine Gv.grd (h.show hn (by omega)) (Gv.pos rfl (Gv.grd (sv.show2 su hn (by omega)) (Gv.pos rfl (Gv.grd (y.show hn (by omega)) (Gv.grd b1 (Gv.grd z1 (Gv.grd b2 (Gv.grd b1 (Gv.grd z1 (Gv.grd b2 (Gv.bnd fun _ _ => Gv.grd d1 (Gv.grd d2 (Gv.grd d1 (Gv.grd d2 (Gv.bnd fun _ _ => Gv.grd (h.show hn (by omega)) (Gv.pos rfl (Gv.grd (y.show hn (by omega)) (Gv.pos rfl ?_))))))))))))))))))
  refine Gv.bind_eq (refused_q (by omega)) (Gv.pos rfl (Gv.bind_eq (refused_r h0 h1 (by omega)) (Gv.pos rfl (Gv.bind_eq (quant_nil h0 h1 r0 r1) (Gv.pos rfl (Gv.bind_eq (restore_nil h0 h1) (Gv.pos rfl ?_)))))))
  exact Gv.bind_eq (refused_q (by omega)) (Gv.pos rfl (Gv.bind_eq (refused_q (by omega)) (Gv.pos rfl (Gv.bind_eq (refused_r h0 h1 (by omega)) (Gv.pos rfl (Gv.bind_eq (refused_r h0 h1 (by omega)) (Gv.pos rfl (.ok rfl))))))))
theorem rows_ok {n : Nat} {s most : Int} {ds : List Int} (hs : s = n) (hn : n = 4 ∨ n = 8) (hl : (ds.length : Int) = s * s) (hm : 0 ≤ most ∧ most ≤ 262144) (hd : ∀ x ∈ ds, 0 ≤ x ∧ x < 2 * most + 1) :
    Gv (mapA (rng 0 (Int.toNat s)) [] (fun x => noEr (F_law_c2 s most ds x))) (fun rows => Sqr n 262144 rows) := by
  subst hs
  have hsq : (n : Int) * n = 16 ∧ n = 4 ∨ (n : Int) * n = 64 ∧ n = 8 := by rcases hn with rfl | rfl <;> decide
  have row : ∀ j ∈ rng 0 (Int.toNat n), noEr (F_law_c2 n most ds j) = .ok ((rng 0 (Int.toNat n)).map fun i => itD ds (j * n + i) - most) := fun j hj => by
    have := rng_mem hj
    unfold F_law_c2
    rw [grd_pos (by omega), mapA_pure0 (g := fun i => itD ds (j * n + i) - most) (fun i hi => ?_) (by rw [rng_len]; omega)]
    · rfl
    · have hi := rng_mem hi
      unfold F_law_c3
      have : -(ds.length : Int) ≤ j * n + i ∧ j * n + i < ds.length := by
        rw [hl]
        rcases hn with rfl | rfl
        · omega
        · omega
      rw [grd_pos (.inr ⟨by omega, by omega⟩), grd_pos this]
      rfl
  rw [mapA_pure0 row (by rw [rng_len]; omega)]
  refine .ok ⟨by rw [List.length_map, rng_len]; omega, fun r hr => ?_⟩
  obtain ⟨j, hj, rfl⟩ := List.mem_map.mp hr
  have hj := rng_mem hj
  refine ⟨by rw [List.length_map, rng_len]; omega, fun x hx => ?_⟩
  obtain ⟨i, hi, rfl⟩ := List.mem_map.mp hx
  have hi := rng_mem hi
  have := hd _ (itD_mem (xs := ds) (k := j * n + i) (by
    rw [hl]
    rcases hn with rfl | rfl
    · omega
    · omega))
  omega
theorem b1_ok (xs : List Int) (k : Int) (h : 0 ≤ k) : F_law_b1 xs k = .ok (.go ()) := by
  refine Gv.get ?_
  unfold F_law_b1
  refine Gv.bind (cell_gv xs k h) fun v hv => Gv.bnd fun cell hc => Gv.bnd fun size hs => Gv.bnd fun q hq => Gv.bnd fun r hr => Gv.grd (by show -(3 : Int) ≤ _ ∧ _ < (3 : Int); omega) (Gv.bnd fun most hm => ?_)
  have hn : ∃ n : Nat, size = n ∧ (n = 4 ∨ n = 8) := by
    have : cell % 2 = 0 ∨ cell % 2 = 1 := by omega
    rcases this with e | e
    · exact ⟨4, by omega, .inl rfl⟩
    · exact ⟨8, by omega, .inr rfl⟩
  obtain ⟨n, hn, hn2⟩ := hn
  have hm : 0 ≤ most ∧ most ≤ 262144 := by
    have : cell / 3 % 3 = 0 ∨ cell / 3 % 3 = 1 ∨ cell / 3 % 3 = 2 := by omega
    rcases this with e | e | e <;> rw [e] at hm <;> subst hm <;> decide
  have hss : size * size = 16 ∨ size * size = 64 := by
    rcases hn2 with rfl | rfl <;> subst hn
    · left; rfl
    · right; rfl
  have h0 : 0 ≤ q := by omega
  have h1 : q ≤ 31 := by omega
  have r0 : 0 ≤ r := by omega
  have r1 : r ≤ 8 := by omega
  have st := stp_b h0 h1
  have hnb : n ≤ 8 := by omega
  refine Gv.grd (.inl ⟨by omega, by omega⟩) (Gv.bind (digits_gv _ _ _ (by omega) (by omega) (by omega) (by omega)) fun ds hd => Gv.grd ⟨by omega, by omega⟩ (Gv.bind (rows_ok hn hn2 hd.1 hm hd.2) fun rows sr => ?_))
  have m1 := more_b st.1 r0 r1
  have m4 := more_b (r := 4) st.1 (by decide) (by decide)
  have sl : Sqr n (262144 + 1000) (qsq q r rows) := sr.map fun x hx => lev_b st.1 m1.1 (by omega) hx
  have su : Sqr n (262144 + 1000) (qsq q 4 rows) := sr.map fun x hx => lev_b st.1 m4.1 (by omega) hx
  have sv : Sqr n 1000000000 (rsq q (qsq q r rows)) := sl.map fun x hx => by
    have a := Int.mul_le_mul_of_nonneg_right hx.2 (show 0 ≤ stp q by omega)
    have b := Int.mul_le_mul_of_nonneg_right hx.1 (show 0 ≤ stp q by omega)
    have c : (262144 + 1000) * stp q ≤ (262144 + 1000) * 1000 := Int.mul_le_mul_of_nonneg_left (by omega) (by omega)
    have d : -(262144 + 1000) * stp q = -((262144 + 1000) * stp q) := by rw [Int.neg_mul]
    omega
  refine Gv.grd (sr.show hnb (by omega)) (Gv.grd (.inl ⟨by omega, by omega⟩) (Gv.bnd fun step hst => ?_))
  have hst : step = stp q := hst
  subst hst
  refine Gv.bind_eq (quant_ok sr hnb h0 h1 r0 r1) (Gv.bind_eq (quant_ok sr hnb h0 h1 (by decide) (by decide)) (Gv.bind_eq (square_ok sl hn) (Gv.pos rfl (Gv.bind_eq (square_ok su hn) (Gv.pos rfl (Gv.grd (sr.show hnb (by omega)) (Gv.pos rfl (Gv.grd (sl.show hnb (by omega)) (Gv.bind_eq (restore_ok sl hnb h0 h1) (Gv.bind_eq (square_ok sv hn) (Gv.pos rfl (Gv.grd (sl.show hnb (by omega)) (Gv.pos rfl (Gv.grd ⟨by omega, by omega⟩ (Gv.bind_eq (a := .go ()) (forR_unit fun j hj => ?_) ?_)))))))))))))))
  · have hj := rng_mem hj
    show F_law_b4 _ _ _ _ _ _ _ j = _
    unfold F_law_b4
    rw [grd_pos ⟨by omega, by omega⟩, forR_unit fun i hi => ?_]
    · rfl
    · have hi := rng_mem hi
      exact b5_ok sr hnb h0 h1 r0 r1 (by omega) (by omega) (by omega) (by omega)
  · exact .of_eq (r4_ok (B := 1000000000) (sr.imp (by omega)) (sl.imp (by omega)) (su.imp (by omega)) sv (by omega) hnb (by omega) hn h0 h1 r0 r1) rfl
theorem law_true (xs : List Int) (h : xs.length ≤ 63) : F_law xs = .ok true := by
  unfold F_law
  rw [grd_pos (by split <;> omega), forR_unit (fun x hx => b1_ok xs x (rng_mem hx).1)]
  rfl

end Vx
namespace Vx
open PySem PySem.Spec PyProof.Rows L2
def topS (i : Nat) : Stmt := PySem.Challenge.pw_thaumatrope_k45_squares_quantized.main.body.getD i (.Pass ⟨0, 0, 0, 0⟩)
abbrev s__law_digits : Stmt := topS 13
abbrev s_step_of : Stmt := topS 6
abbrev s__rounding_of : Stmt := topS 9
abbrev s__level_of : Stmt := topS 10
abbrev s_quantize_square : Stmt := topS 7
abbrev s_restore_square : Stmt := topS 8
abbrev s__law_cell : Stmt := topS 12
abbrev s__law_is_square : Stmt := topS 14
abbrev s__law_due : Stmt := topS 15
abbrev s__law_refused : Stmt := topS 16
abbrev s_law : Stmt := topS 17
structure Ads where
  x_CodecError : Addr
  x_OutOfRange : Addr
  z0 : Addr
def excA (AD : Ads) : Nat → Addr
  | 0 => AD.x_CodecError
  | 1 => AD.x_OutOfRange
  | _ => AD.z0
structure Txt (K : PySem.W.Frag) (mg : Str → Option Value) (AD : Ads) : Prop where
  b_int : mg "int" = none
  b_range : mg "range" = none
  g_GREATEST_QUANTIZER : ∃ u, mg "GREATEST_QUANTIZER" = some u ∧ RelV (V.int 31) u
  g_GREATEST_ROUNDING : ∃ u, mg "GREATEST_ROUNDING" = some u ∧ RelV (V.int 8) u
  b_abs : mg "abs" = none
  b_len : mg "len" = none
  b_isinstance : mg "isinstance" = none
  b_list : mg "list" = none
  b_bool : mg "bool" = none
  b_repr : mg "repr" = none
  b_min : mg "min" = none
  xg_OutOfRange : mg "OutOfRange" = some (.ref AD.x_OutOfRange)
  xx_OutOfRange : PySem.W.excIn K AD.x_OutOfRange [.type "ValueError", .type "Exception", .type "BaseException", .type "object"] "ValueError.__new__" = true
  xk_OutOfRange : PySem.W.keepIn K (.ref AD.x_OutOfRange) = true
  xb_OutOfRange : PySem.W.subIn K (.ref AD.x_OutOfRange) (.type "BaseException") = some true
  xt_OutOfRange : PySem.W.typeIn K (.ref AD.x_OutOfRange) = some (.type "type")
  xm_OutOfRange_OutOfRange : PySem.W.exmOne K (.ref AD.x_OutOfRange) (.ref AD.x_OutOfRange) = some true
abbrev pat__law_digits_0 : Pat := (3, [], fun vs _ => vs)
abbrev pats__law_digits : List Pat := [pat__law_digits_0]
abbrev pat_step_of_0 : Pat := (1, [], fun vs _ => vs)
abbrev pats_step_of : List Pat := [pat_step_of_0]
abbrev pat__rounding_of_0 : Pat := (2, [], fun vs _ => vs)
abbrev pats__rounding_of : List Pat := [pat__rounding_of_0]
abbrev pat__level_of_0 : Pat := (3, [], fun vs _ => vs)
abbrev pats__level_of : List Pat := [pat__level_of_0]
abbrev pat_quantize_square_0 : Pat := (1, ["quantizer", "rounding"], fun vs zs => match vs, zs with | [a0], [b0, b1] => [a0, b0, b1] | _, _ => [])
def gk_quantize_square_1 {α : Type} (us mz ws : List α) : List α := match us, mz, ws with | [a0], [m0], [b0] => [a0, b0, m0] | _, _, _ => []
theorem gknil_quantize_square_1 {α : Type} {us mz ws : List α} (h : us.length ≠ 1 ∨ mz.length ≠ 1 ∨ ws.length ≠ 1) : gk_quantize_square_1 us mz ws = [] := by
  unfold gk_quantize_square_1
  split
  · simp at h
  · rfl
theorem gkrel_quantize_square_1 {vs mz zs : List V} {us mv ws : List Value} (r : Vals vs us) (s : Vals mz mv) (q : Vals zs ws) : Vals (gk_quantize_square_1 vs mz zs) (gk_quantize_square_1 us mv ws) := by
  by_cases h1 : vs.length = 1
  · by_cases h2 : mz.length = 1
    · by_cases h3 : zs.length = 1
      · obtain ⟨a0, rfl⟩ := len1 h1
        obtain ⟨m0, rfl⟩ := len1 h2
        obtain ⟨b0, rfl⟩ := len1 h3
        cases r with | cons r0 r =>
          cases r
          cases s with | cons s0 s =>
            cases s
            cases q with | cons q0 q =>
              cases q
              exact (.cons r0 (.cons q0 (.cons s0 .nil)))
      · have k : ws.length ≠ 1 := fun z => h3 (q.length.trans z)
        rw [gknil_quantize_square_1 (by first | exact .inl h3 | exact .inr (.inl h3) | exact .inr (.inr h3)), gknil_quantize_square_1 (by first | exact .inl k | exact .inr (.inl k) | exact .inr (.inr k))]
        exact .nil
    · have k : mv.length ≠ 1 := fun z => h2 (s.length.trans z)
      rw [gknil_quantize_square_1 (by first | exact .inl h2 | exact .inr (.inl h2) | exact .inr (.inr h2)), gknil_quantize_square_1 (by first | exact .inl k | exact .inr (.inl k) | exact .inr (.inr k))]
      exact .nil
  · have k : us.length ≠ 1 := fun z => h1 (r.length.trans z)
    rw [gknil_quantize_square_1 (by first | exact .inl h1 | exact .inr (.inl h1) | exact .inr (.inr h1)), gknil_quantize_square_1 (by first | exact .inl k | exact .inr (.inl k) | exact .inr (.inr k))]
    exact .nil
abbrev pat_quantize_square_1 : Pat := (1, ["quantizer"], fun vs zs => gk_quantize_square_1 vs [V.int 4] zs)
abbrev pats_quantize_square : List Pat := [pat_quantize_square_0, pat_quantize_square_1]
abbrev pat_restore_square_0 : Pat := (2, [], fun vs _ => vs)
abbrev pats_restore_square : List Pat := [pat_restore_square_0]
abbrev pat__law_cell_0 : Pat := (2, [], fun vs _ => vs)
abbrev pats__law_cell : List Pat := [pat__law_cell_0]
abbrev pat__law_is_square_0 : Pat := (2, [], fun vs _ => vs)
abbrev pats__law_is_square : List Pat := [pat__law_is_square_0]
abbrev pat__law_due_0 : Pat := (3, [], fun vs _ => vs)
abbrev pats__law_due : List Pat := [pat__law_due_0]
abbrev pat__law_refused_0 : Pat := (3, [], fun vs _ => vs)
abbrev pats__law_refused : List Pat := [pat__law_refused_0]
abbrev pats_law : List Pat := []
def sp__law_digits (K : PySem.W.Frag) (AD : Ads) : Sp := fun vs H Q E => ∃ (G : Hp) (cell' : Int) (base' : Int) (most' : Int), vs = [.int cell', .int base', .int most'] ∧ Same G H ∧ cW (F__law_digits cell' base' most') (fun v => ∀ p H', H p = none → Same H H' → H' p = some (.lst (v.map V.int)) → Q (.ref p) H') (fun e => ∀ H', Same H H' → E (.ref (excA AD e)) none H')
def sp_step_of (K : PySem.W.Frag) (AD : Ads) : Sp := fun vs H Q E => ∃ (G : Hp) (quantizer' : Int), vs = [.int quantizer'] ∧ Same G H ∧ cW (F_step_of quantizer') (fun v => Q (.int v) H) (fun e => E (.ref (excA AD e)) none H)
def sp__rounding_of (K : PySem.W.Frag) (AD : Ads) : Sp := fun vs H Q E => ∃ (G : Hp) (step' : Int) (rounding' : Int), vs = [.int step', .int rounding'] ∧ Same G H ∧ cW (F__rounding_of step' rounding') (fun v => Q (.int v) H) (fun e => E (.ref (excA AD e)) none H)
def sp__level_of (K : PySem.W.Frag) (AD : Ads) : Sp := fun vs H Q E => ∃ (G : Hp) (value' : Int) (step' : Int) (more' : Int), vs = [.int value', .int step', .int more'] ∧ Same G H ∧ cW (F__level_of value' step' more') (fun v => Q (.int v) H) (fun e => E (.ref (excA AD e)) none H)
def sp_quantize_square (K : PySem.W.Frag) (AD : Ads) : Sp := fun vs H Q E => ∃ (G : Hp) (v_square : V) (square' : (List (List Int))) (quantizer' : Int) (rounding' : Int), vs = [v_square, .int quantizer', .int rounding'] ∧ Same G H ∧ Rp (hideL [] H) v_square ((encL (encL PyData.int)) square') ∧ cW (F_quantize_square square' quantizer' rounding') (fun v => ∀ (H' : Hp) (a : Addr) (vs : List V) (L : List Addr) (G' : Hp), H a = none → (∀ b ∈ L, H b = none) → (∀ b ∈ L, b ≠ a) → Same H H' → Same G G' → Same G' H' → (∀ b, H b ≠ none → G b = none → G' b = none) → G' a = none → (∀ b ∈ L, G' b = none) → H' a = some (.lst vs) → OwAll G' H' L vs ((v : (List (List Int))).map (oL oI)) → Q (.ref a) H') (fun e => ∀ H', Same H H' → E (.ref (excA AD e)) none H')
def sp_restore_square (K : PySem.W.Frag) (AD : Ads) : Sp := fun vs H Q E => ∃ (G : Hp) (v_square : V) (square' : (List (List Int))) (quantizer' : Int), vs = [v_square, .int quantizer'] ∧ Same G H ∧ Rp (hideL [] H) v_square ((encL (encL PyData.int)) square') ∧ cW (F_restore_square square' quantizer') (fun v => ∀ (H' : Hp) (a : Addr) (vs : List V) (L : List Addr) (G' : Hp), H a = none → (∀ b ∈ L, H b = none) → (∀ b ∈ L, b ≠ a) → Same H H' → Same G G' → Same G' H' → (∀ b, H b ≠ none → G b = none → G' b = none) → G' a = none → (∀ b ∈ L, G' b = none) → H' a = some (.lst vs) → OwAll G' H' L vs ((v : (List (List Int))).map (oL oI)) → Q (.ref a) H') (fun e => ∀ H', Same H H' → E (.ref (excA AD e)) none H')
def sp__law_cell (K : PySem.W.Frag) (AD : Ads) : Sp := fun vs H Q E => ∃ (G : Hp) (a_script : Addr) (script' : List Int) (k' : Int), vs = [.ref a_script, .int k'] ∧ Same G H ∧ SqL K H a_script ((script' : List Int).map V.int) ∧ cW (F__law_cell script' k') (fun v => Q (.int v) H) (fun e => E (.ref (excA AD e)) none H)
def sp__law_is_square (K : PySem.W.Frag) (AD : Ads) : Sp := fun vs H Q E => ∃ (G : Hp) (v_actual : V) (actual' : (List (List Int))) (size' : Int), vs = [v_actual, .int size'] ∧ Same G H ∧ Rp (hideL [] H) v_actual ((encL (encL PyData.int)) actual') ∧ cW (F__law_is_square actual' size') (fun v => ∀ H', Same H H' → Q (.bl v) H') (fun e => ∀ H', Same H H' → E (.ref (excA AD e)) none H')
def sp__law_due (K : PySem.W.Frag) (AD : Ads) : Sp := fun vs H Q E => ∃ (G : Hp) (value' : Int) (step' : Int) (rounding' : Int), vs = [.int value', .int step', .int rounding'] ∧ Same G H ∧ cW (F__law_due value' step' rounding') (fun v => Q (.int v) H) (fun e => E (.ref (excA AD e)) none H)
def sp__law_refused (K : PySem.W.Frag) (AD : Ads) : Sp := fun vs H Q E => ∃ (G : Hp) (v_rows : V) (rows' : (List (List Int))) (quantizer' : Int) (rounding' : Int), vs = [v_rows, .int quantizer', .int rounding'] ∧ Same G H ∧ Rp (hideL [] H) v_rows ((encL (encL PyData.int)) rows') ∧ cW (F__law_refused rows' quantizer' rounding') (fun v => ∀ H', Same H H' → Q (.bl v) H') (fun e => ∀ H', Same H H' → E (.ref (excA AD e)) none H')
def sp_law (K : PySem.W.Frag) (AD : Ads) : Sp := fun vs H Q E => ∃ (a_script : Addr) (script : List Int), vs = [.ref a_script] ∧ SqL K H a_script (script.map V.int) ∧ cW (F_law script) (fun v => v = true) (fun _ => False) ∧ ∀ H', Q (.bl true) H'
section
variable {P : Program} {w : World} {K : PySem.W.Frag} {mg : Str → Option Value} {base : Heap} {AD : Ads}
abbrev N__law_digits : List Str := ["cell", "base", "most", "digits", "large", "k"]
theorem sc__law_digits : FnScope N__law_digits ["cell", "base", "most"] (defScope s__law_digits) := ⟨rfl, rfl, rfl, by decide +kernel, rfl, by decide +kernel, by decide +kernel⟩
theorem ok__law_digits (D : DefX K mg "_law_digits" s__law_digits ["cell", "base", "most"] pats__law_digits) (T : Txt K mg AD)  : CalX P w K mg base 1 "_law_digits" (sp__law_digits K AD) pats__law_digits := by
  refine D.ok sc__law_digits (fun vs H Q E h => ?_) (fun f cdv A_ outer s H vs Q E hr h => ?_)
  · obtain ⟨G, cell', base', most', rfl, _⟩ := h
    rfl
  · obtain ⟨G, cell', base', most', rfl, sG, hw⟩ := h
    refine ⟨_, (pss_cons (ps_set (i := 3) sc__law_digits.nd rfl (Or.inl rfl) (pe_lst pa_nil))
      (pss_cons (ps_set (i := 4) sc__law_digits.nd rfl (Or.inl rfl) (pe_cmp (pc_ge (pv 0) (pe_op op_pow pe_int pe_int))))
      (pss_cons (ps_for (passes_of rfl) rfl (pi_range1 rfl T.b_range (pa_cons (pv 2) pa_nil)) (pg_name (i := 5) sc__law_digits.nd rfl (Or.inl rfl)) (pss_one (ps_if (pt_val (pv 4)) (pss_cons (ps_expr (pe_bm PySem.F.plainAttrs_list PySem.F.slot_list_append PySem.F.type_list_append mt_append (pv 3) (pa_cons (pe_op op_mod (pe_callTy call_int1 (by rfl) T.b_int (by decide +kernel) (pa_cons (pv 0) pa_nil)) (pv 1)) pa_nil)))
      (pss_one (ps_set (i := 0) sc__law_digits.nd rfl (Or.inl rfl) (pe_op op_fdivW (pv 0) (pv 1))))) (pss_one (ps_expr (pe_bm PySem.F.plainAttrs_list PySem.F.slot_list_append PySem.F.type_list_append mt_append (pv 3) (pa_cons (pe_op op_mod (pe_op op_mod (pe_callTy call_int1 (by rfl) T.b_int (by decide +kernel) (pa_cons (pe_op op_add (pe_op op_add (pe_op op_mul (pv 0) pe_int) (pe_op op_mul (pe_op op_mul (pe_op op_add (pv 5) pe_int) (pe_op op_add (pv 5) pe_int)) pe_int)) (pe_op op_mul (pe_op op_fdivW (pv 0) pe_int) (pv 5))) pa_nil)) pe_int) (pv 1)) pa_nil)))))))
      (pss_one (ps_ret (pv 3)))))), ?_⟩
    obtain ⟨KK, EE, hK0, hE, hw⟩ := cW_gen hw
    have S0 := Sep.startG sG
    unfold F__law_digits at hw
    refine ⟨(by show 0 ≤ sizeLine; decide), fun p1 n2 => ?_⟩
    generalize g3 : upd H p1 _ = H4
    obtain ⟨e5, h6⟩ := gen_new n2 g3
    have h7 : H4 p1 = some (.lst ((([] : (List Int)) : (List Int)).map V.int)) := h6
    have fr8 := S0.free n2
    have S9 := S0.new n2 e5 h7 fr8
    refine ⟨_, rfl, _, _, rfl, rfl, ⟨by decide, by decide, by decide⟩, _, _, rfl, rfl, ?_⟩
    have hw := cW_bnd hw
    obtain ⟨g11, hw⟩ := cW_grd hw
    obtain ⟨K14, hK15, hw⟩ := cW_push hw
    refine ⟨_, rfl, _, rfl, g11.1, g11.2, for_range (lo := 0) (n := Int.toNat (most')) (fun i σ H' => ∃ (cell_16 : Int) (digits_17 : (List Int)) (u18 : Option V) (G' : Hp), σ = [some (V.int cell_16), some (V.int (base')), some (V.int (most')), some (V.ref p1), some (V.bl (decide (((10 : Int) ^ Int.toNat 18) ≤ cell'))), u18] ∧ Same G G' ∧ Sep [] H G G' H' [p1] ∧ H' p1 = some (.lst ((digits_17 : (List Int)).map V.int)) ∧ cW (forS (List.drop i (rng (0) (Int.toNat (most')))) (cell_16, digits_17) (fun s x => F__law_digits_b1 (base') (decide (((10 : Int) ^ Int.toNat 18) ≤ cell')) (s.1) (s.2) x)) K14 EE) ?_ ?_ ?_⟩
    · exact ⟨(cell'), (([] : (List Int))), _, _, rfl, (Same.refl _), S9, h7, hw⟩
    · intro i σ H19 hi hw
      obtain ⟨cell_16, digits_17, u18, G22, rfl, eG23, S20, h21, hw⟩ := hw
      have hw := cW_forS (rng_get hi) hw
      generalize (0 + (i : Int)) = x24 at hw ⊢
      have hw : cW (F__law_digits_b1 (base') (decide (((10 : Int) ^ Int.toNat 18) ≤ cell')) (cell_16) (digits_17) (x24)) _ EE := hw
      unfold F__law_digits_b1 at hw
      obtain ⟨K27, hK28, hw⟩ := cW_name hw
      refine ⟨_, rfl, _, rfl, ?_⟩
      refine iteB (fun c30 => ?_) (fun c30 => ?_)
      · have hw := cW_pos c30 hw
        refine ⟨_, rfl, (.inl ⟨rfl, _, SqL.of h21⟩), _, rfl, .inl ⟨_, rfl, ?_⟩⟩
        obtain ⟨g31, hw⟩ := cW_grd hw
        obtain ⟨g32, hw⟩ := cW_grd hw
        refine ⟨_, rfl, _, _, rfl, rfl, g31, _, _, _, rfl, rfl, h21, (app_lenM g32), ?_⟩
        generalize g33 : upd H19 p1 _ = H34
        obtain ⟨x35, h36⟩ := gen_mut g33
        have h37 : H34 p1 = some (.lst (((digits_17) ++ [(cell_16 % base')] : (List Int)).map V.int)) := snoc_map h36
        have S38 := S20.mut1 x35 (.head _) h37
        have hw := cW_bnd hw
        obtain ⟨g40, hw⟩ := cW_grd hw
        refine ⟨_, rfl, _, rfl, _, _, rfl, rfl, (divW_small g40.1 g40.2), ?_⟩
        have hw := cW_bnd hw
        have hw := cW_ok hw
        have hw := hK28 _ hw
        exact ⟨((cell_16 / base')), ((digits_17) ++ [(cell_16 % base')]), _, _, rfl, eG23, S38, h37, hw⟩
      · have hw := cW_negB c30 hw
        obtain ⟨g42, hw⟩ := cW_grd hw
        obtain ⟨g43, hw⟩ := cW_grd hw
        refine ⟨_, rfl, (.inl ⟨rfl, _, SqL.of h21⟩), _, rfl, _, _, rfl, rfl, (.inr ⟨by decide, by decide⟩), _, rfl, _, _, rfl, rfl, _, rfl, _, _, rfl, rfl, _, _, rfl, rfl, g42, _, _, rfl, rfl, (.inr ⟨by decide, by decide⟩), _, _, rfl, rfl, _, rfl, _, _, rfl, rfl, (divW_lit (by decide) (by decide)), _, rfl, _, _, rfl, rfl, g43, _, _, rfl, rfl, .inl ⟨_, rfl, ?_⟩⟩
        obtain ⟨g44, hw⟩ := cW_grd hw
        obtain ⟨g45, hw⟩ := cW_grd hw
        refine ⟨_, _, rfl, rfl, (show (0 : Int) < 2147483647 by decide), _, rfl, _, _, rfl, rfl, g44, _, _, _, rfl, rfl, h21, (app_lenM g45), ?_⟩
        generalize g46 : upd H19 p1 _ = H47
        obtain ⟨x48, h49⟩ := gen_mut g46
        have h50 : H47 p1 = some (.lst (((digits_17) ++ [(((((cell_16 * 48271) + (((x24 + 1) * (x24 + 5)) * 69621)) + ((cell_16 / 97) * x24)) % 2147483647) % base')] : (List Int)).map V.int)) := snoc_map h49
        have S51 := S20.mut1 x48 (.head _) h50
        have hw := cW_bnd hw
        have hw := cW_ok hw
        have hw := hK28 _ hw
        exact ⟨(cell_16), ((digits_17) ++ [(((((cell_16 * 48271) + (((x24 + 1) * (x24 + 5)) * 69621)) + ((cell_16 / 97) * x24)) % 2147483647) % base')]), _, _, rfl, eG23, S51, h50, hw⟩
    · intro σ H53 hw
      obtain ⟨cell_16, digits_17, u18, G56, rfl, eG57, S54, h55, hw⟩ := hw
      have hw := hK15 _ (cW_forS0 (rng_len _ _).symm hw)
      have hw : cW (F__law_digits_r1  (cell_16) (digits_17)) _ EE := hw
      unfold F__law_digits_r1 at hw
      refine ⟨_, rfl, ?_⟩
      have hw := cW_ok hw
      exact hK0 _ hw _ _ fr8 S54.b0 h55

abbrev N_step_of : List Str := ["quantizer"]
theorem sc_step_of : FnScope N_step_of ["quantizer"] (defScope s_step_of) := ⟨rfl, rfl, rfl, by decide +kernel, rfl, by decide +kernel, by decide +kernel⟩
theorem ok_step_of (D : DefX K mg "step_of" s_step_of ["quantizer"] pats_step_of) (T : Txt K mg AD)  : CalX P w K mg base 1 "step_of" (sp_step_of K AD) pats_step_of := by
  refine D.ok sc_step_of (fun vs H Q E h => ?_) (fun f cdv A_ outer s H vs Q E hr h => ?_)
  · obtain ⟨G, quantizer', rfl, _⟩ := h
    rfl
  · obtain ⟨G, quantizer', rfl, sG, hw⟩ := h
    refine ⟨_, (pss_cons (ps_if (pt_not (pt_chain op_le op_le pe_int (pv 0) (C8.pe_gc rfl T.g_GREATEST_QUANTIZER))) (pss_one (ps_raise rfl (takes_of rfl rfl rfl rfl) (pmk_own PySem.F.excBase_ValueError T.xx_OutOfRange T.xg_OutOfRange T.xk_OutOfRange (raises_own T.xb_OutOfRange T.xt_OutOfRange) rfl))) pss_nil)
      (pss_one (ps_ret (pe_op op_add (pe_op op_add pe_int (pv 0)) (pe_op op_fdivW (pe_op op_mul (pv 0) (pv 0)) pe_int))))), ?_⟩
    obtain ⟨KK, EE, hK0, hE, hw⟩ := cW_gen hw
    have S0 := Sep.startG sG
    unfold F_step_of at hw
    refine ⟨_, rfl, _, _, rfl, rfl, _, rfl, ?_⟩
    refine iteD (fun c60 => ?_) (fun c60 => ?_)
    · have hw := cW_pos c60 hw
      refine ⟨_, _, rfl, rfl, _, rfl, ?_⟩
      refine iteN (fun c61 => ?_) (fun c61 => ?_)
      · have hw := cW_neg c61 hw
        exact hE 1 (cW_er hw)
      · have hw := cW_pos c61 hw
        obtain ⟨g62, hw⟩ := cW_grd hw
        refine ⟨_, rfl, _, _, rfl, rfl, _, rfl, _, rfl, _, _, rfl, rfl, g62, _, _, rfl, rfl, (divW_lit (by decide) (by decide)), _, _, rfl, rfl, ?_⟩
        have hw := cW_ok hw
        exact hK0 _ hw
    · have hw := cW_neg c60 hw
      refine ⟨_, rfl, ?_⟩
      refine iteT ?_
      exact hE 1 (cW_er hw)

abbrev N__rounding_of : List Str := ["step", "rounding"]
theorem sc__rounding_of : FnScope N__rounding_of ["step", "rounding"] (defScope s__rounding_of) := ⟨rfl, rfl, rfl, by decide +kernel, rfl, by decide +kernel, by decide +kernel⟩
theorem ok__rounding_of (D : DefX K mg "_rounding_of" s__rounding_of ["step", "rounding"] pats__rounding_of) (T : Txt K mg AD)  : CalX P w K mg base 1 "_rounding_of" (sp__rounding_of K AD) pats__rounding_of := by
  refine D.ok sc__rounding_of (fun vs H Q E h => ?_) (fun f cdv A_ outer s H vs Q E hr h => ?_)
  · obtain ⟨G, step', rounding', rfl, _⟩ := h
    rfl
  · obtain ⟨G, step', rounding', rfl, sG, hw⟩ := h
    refine ⟨_, (pss_cons (ps_if (pt_not (pt_chain op_le op_le pe_int (pv 1) (C8.pe_gc rfl T.g_GREATEST_ROUNDING))) (pss_one (ps_raise rfl (takes_of rfl rfl rfl rfl) (pmk_own PySem.F.excBase_ValueError T.xx_OutOfRange T.xg_OutOfRange T.xk_OutOfRange (raises_own T.xb_OutOfRange T.xt_OutOfRange) rfl))) pss_nil)
      (pss_one (ps_ret (pe_op op_fdivW (pe_op op_mul (pe_op op_sub (pv 0) pe_int) (pv 1)) (C8.pe_gc rfl T.g_GREATEST_ROUNDING))))), ?_⟩
    obtain ⟨KK, EE, hK0, hE, hw⟩ := cW_gen hw
    have S0 := Sep.startG sG
    unfold F__rounding_of at hw
    refine ⟨_, rfl, _, _, rfl, rfl, _, rfl, ?_⟩
    refine iteD (fun c63 => ?_) (fun c63 => ?_)
    · have hw := cW_pos c63 hw
      refine ⟨_, _, rfl, rfl, _, rfl, ?_⟩
      refine iteN (fun c64 => ?_) (fun c64 => ?_)
      · have hw := cW_neg c64 hw
        exact hE 1 (cW_er hw)
      · have hw := cW_pos c64 hw
        obtain ⟨g65, hw⟩ := cW_grd hw
        refine ⟨_, rfl, _, _, rfl, rfl, _, rfl, _, _, rfl, rfl, g65, _, _, rfl, rfl, (divW_lit (by decide) (by decide)), ?_⟩
        have hw := cW_ok hw
        exact hK0 _ hw
    · have hw := cW_neg c63 hw
      refine ⟨_, rfl, ?_⟩
      refine iteT ?_
      exact hE 1 (cW_er hw)

abbrev N__level_of : List Str := ["value", "step", "more", "level"]
theorem sc__level_of : FnScope N__level_of ["value", "step", "more"] (defScope s__level_of) := ⟨rfl, rfl, rfl, by decide +kernel, rfl, by decide +kernel, by decide +kernel⟩
theorem ok__level_of (D : DefX K mg "_level_of" s__level_of ["value", "step", "more"] pats__level_of) (T : Txt K mg AD)  : CalX P w K mg base 1 "_level_of" (sp__level_of K AD) pats__level_of := by
  refine D.ok sc__level_of (fun vs H Q E h => ?_) (fun f cdv A_ outer s H vs Q E hr h => ?_)
  · obtain ⟨G, value', step', more', rfl, _⟩ := h
    rfl
  · obtain ⟨G, value', step', more', rfl, sG, hw⟩ := h
    refine ⟨_, (pss_cons (ps_set (i := 3) sc__level_of.nd rfl (Or.inl rfl) (pe_op op_fdivW (pe_op op_add (pe_callB call_abs (by rfl) T.b_abs (by decide +kernel) (pa_cons (pv 0) pa_nil)) (pv 2)) (pv 1)))
      (pss_one (ps_ret (pe_ifExp (pt_cmp (pc_lt (pv 0) pe_int)) (pe_un un_neg (pv 3)) (pv 3))))), ?_⟩
    obtain ⟨KK, EE, hK0, hE, hw⟩ := cW_gen hw
    have S0 := Sep.startG sG
    unfold F__level_of at hw
    obtain ⟨g66, hw⟩ := cW_grd hw
    refine ⟨_, rfl, _, rfl, _, rfl, _, _, rfl, rfl, _, rfl, _, _, rfl, rfl, (divW_small g66.1 g66.2), ?_⟩
    have hw := cW_bnd hw
    refine vv_if (vt_cmp (vv_cmp (val_var rfl) val_c (fun Q q => ⟨_, _, rfl, rfl, q⟩))) (vv_un (val_var rfl) (fun Q q => ⟨_, rfl, q⟩)) (val_var rfl) _ ?_
    have hw := cW_ok hw
    exact hK0 _ hw

abbrev N_quantize_square : List Str := ["square", "quantizer", "rounding", "step", "more", "row", "value"]
theorem sc_quantize_square : FnScope N_quantize_square ["square", "quantizer", "rounding"] (defScope s_quantize_square) := ⟨rfl, rfl, rfl, by decide +kernel, rfl, by decide +kernel, by decide +kernel⟩
theorem ok_quantize_square (D : DefX K mg "quantize_square" s_quantize_square ["square", "quantizer", "rounding"] pats_quantize_square) (T : Txt K mg AD) (c_step_of : CalX P w K mg base 1 "step_of" (sp_step_of K AD) pats_step_of) (c__rounding_of : CalX P w K mg base 1 "_rounding_of" (sp__rounding_of K AD) pats__rounding_of) (c__level_of : CalX P w K mg base 1 "_level_of" (sp__level_of K AD) pats__level_of) : CalX P w K mg base 2 "quantize_square" (sp_quantize_square K AD) pats_quantize_square := by
  refine D.ok sc_quantize_square (fun vs H Q E h => ?_) (fun f cdv A_ outer s H vs Q E hr h => ?_)
  · obtain ⟨G, v_square, square', quantizer', rounding', rfl, _⟩ := h
    rfl
  · obtain ⟨G, v_square, square', quantizer', rounding', rfl, sG, r_square, hw⟩ := h
    refine ⟨_, (pss_cons (ps_set (i := 3) sc_quantize_square.nd rfl (Or.inr rfl) (vx_callX c_step_of pat_step_of_0 (.head _) hr (by decide) (takes_of rfl rfl rfl rfl) rfl (pa_cons (pv 1) pa_nil) pk_nil))
      (pss_cons (ps_set (i := 4) sc_quantize_square.nd rfl (Or.inr rfl) (vx_callX c__rounding_of pat__rounding_of_0 (.head _) hr (by decide) (takes_of rfl rfl rfl rfl) rfl (pa_cons (pv 3) (pa_cons (pv 2) pa_nil)) pk_nil))
      (pss_one (ps_ret (pe_lc (own := [("row", 5)]) (g := gName 5) (by rfl) sc_quantize_square.nd (pi_listK (K := K) (pv 0)) (blkOk_by (own := [("row", 5)]) (N := N_quantize_square) (sc := defScope s_quantize_square) (by decide +kernel)) (fun _ _ _ _ _ => (pg_name (i := 5) sc_quantize_square.nd rfl (Or.inl rfl))) (fun _ _ _ _ _ => pts_nil) (fun _ _ _ _ _ => (pe_lc (own := [("value", 6)]) (g := gName 6) (by rfl) sc_quantize_square.nd (pi_listK (K := K) (pv 5)) (blk_relabel (blkOk_by (own := [("value", 6)]) (N := N_quantize_square) (by decide +kernel))) (fun _ _ _ _ _ => (pg_name (i := 6) sc_quantize_square.nd rfl (Or.inl rfl))) (fun _ _ _ _ _ => pts_nil) (fun _ _ _ _ _ => (vx_callX c__level_of pat__level_of_0 (.head _) hr (by decide) takes0 rfl (pa_cons (pv 6) (pa_cons (pv 3) (pa_cons (pv 4) pa_nil))) pk_nil))))))))), ?_⟩
    obtain ⟨KK, EE, hK0, hE, hw⟩ := cW_gen hw
    have S0 := Sep.startG sG
    unfold F_quantize_square at hw
    obtain ⟨a71, vs72, rfl, h73, d74⟩ := rp_list r_square
    refine ⟨_, rfl, rfl, rfl, G, _, rfl, S0.sG, cW_call hw (fun v75 hw => ?_) (fun e he => hE e he _ S0.b0)⟩
    refine ⟨_, rfl, _, rfl, rfl, rfl, G, _, _, rfl, S0.sG, cW_call hw (fun v76 hw => ?_) (fun e he => hE e he _ S0.b0)⟩
    obtain ⟨K80, hK81, hw⟩ := cW_push hw
    refine ⟨_, rfl, _, rfl, ⟨_, (SqL.of (S0.bM _ _ h73))⟩, fun D82 n83 => lc_list (K := K) (a := a71) (xs := vs72) (fun i H' => ∃ (G' : Hp) (acc85 : (List (List Int))) (vs86 : List V) (L84 : List Addr), Same G G' ∧ Sep [] H G G' H' (D82 :: (L84 ++ [])) ∧ H' D82 = some (.lst vs86) ∧ OwAll G' H' L84 vs86 ((acc85 : (List (List Int))).map (oL oI)) ∧ (∀ b ∈ L84, H b = none) ∧ (∀ b ∈ L84, b ≠ D82) ∧ Same H H' ∧ cW (mapA (List.drop i (square')) acc85 (fun x => noEr (F_quantize_square_c1 (v75) (v76) x))) K80 EE) ?_ ?_ ?_ ?_⟩
    · generalize g87 : upd H D82 _ = H88
      obtain ⟨e89, h90⟩ := gen_new n83 g87
      have fr91 := S0.free n83
      have S92 := S0.new n83 e89 h90 fr91
      exact ⟨_, [], [], [], Same.refl _, (S92.sub (all_cons (.head _) (all_app (L := []) all_nil all_nil))), h90, OwAll.nil, all_nil, all_nil, e89, hw⟩
    · intro i H93 _ hw
      obtain ⟨G96, acc98, vs99, L101, eG97, S94, h95, d100, nb102, nd103, eo104, hw⟩ := hw
      exact (SqL.of (S94.bM _ _ h73))
    · intro i x H105 hj hw
      obtain ⟨G108, acc110, vs111, L113, eG109, S106, h107, d112, nb114, nd115, eo116, hw⟩ := hw
      obtain ⟨x117, hx, r118⟩ := RpAll.get d74 hj
      obtain ⟨a119, rfl, h120⟩ := rp_ints r118
      obtain ⟨z121, hw⟩ := cW_mapA hx hw
      have hw := cW_noEr hw
      have hw : cW (F_quantize_square_c1 (v75) (v76) (x117)) _ (fun _ => False) := hw
      unfold F_quantize_square_c1 at hw
      refine ⟨rfl, ?_⟩
      refine tyes_go ?_
      obtain ⟨K126, hK127, hw⟩ := cW_push hw
      refine ⟨_, rfl, _, rfl, ⟨_, (SqL.of (S106.bM _ _ h120))⟩, fun D128 n129 => lc_list (K := K) (a := a119) (xs := (x117 : List Int).map V.int) (fun i2 H' => ∃ (G' : Hp) (acc131 : (List Int)), Same G108 G' ∧ Sep [] H G G' H' (D128 :: (D82 :: (L113 ++ []))) ∧ H' D82 = some (.lst (vs111)) ∧ H' D128 = some (.lst ((acc131 : (List Int)).map V.int)) ∧ OwAll G' H' L113 (vs111) ((acc110 : (List (List Int))).map (oL oI)) ∧ Same H105 H' ∧ cW (mapA (List.drop i2 (x117)) acc131 (fun x => noEr (F_quantize_square_c2 (v75) (v76) x))) K126 (fun _ => False)) ?_ ?_ ?_ ?_⟩
      · generalize g133 : upd H105 D128 _ = H134
        obtain ⟨e135, h136⟩ := gen_new n129 g133
        have fr137 := S106.free n129
        have S138 := S106.new n129 e135 h136 fr137
        have h139 := (e135 _ _ h107)
        have w140 : OwAll G108 H134 L113 (vs111) ((acc110 : (List (List Int))).map (oL oI)) := (OwAll.mono (Same.refl _) (keeps_same e135) d112)
        exact ⟨_, [], Same.refl _, S138, h139, h136, w140, e135, hw⟩
      · intro i2 H141 _ hw
        obtain ⟨G144, acc146, eG145, S142, h153, h143, w154, eo152, hw⟩ := hw
        exact (SqL.of (S142.bM _ _ h120))
      · intro i2 x H155 hj hw
        obtain ⟨G158, acc160, eG159, S156, h167, h157, w168, eo166, hw⟩ := hw
        obtain ⟨x169, hx, rfl⟩ := map_get hj
        obtain ⟨z170, hw⟩ := cW_mapA hx hw
        have hw := cW_noEr hw
        have hw : cW (F_quantize_square_c2 (v75) (v76) (x169)) _ (fun _ => False) := hw
        unfold F_quantize_square_c2 at hw
        refine ⟨rfl, ?_⟩
        refine tyes_go ?_
        refine ⟨_, rfl, _, rfl, _, rfl, rfl, rfl, G158, _, _, _, rfl, S156.sG, cW_call hw (fun v172 hw => ?_) (fun e he => he.elim)⟩
        refine ⟨_, h157, (app_lenM z170), ?_⟩
        generalize g173 : upd H155 D128 _ = H174
        obtain ⟨x175, h176⟩ := gen_mut g173
        have S177 := S156.mut1 x175 (.head _) h176
        have hw := cW_ok hw
        have h178 := (x175 _ _ h167 (ne_of_none h107 n129))
        have w179 : OwAll G158 H174 L113 (vs111) ((acc110 : (List (List Int))).map (oL oI)) := (OwAll.mono (Same.refl _) (keeps_mut x175 ((there_ne (fun b_ hb_ => (S106.ow b_ (((fun b hb => (.tail _ (List.mem_append_left _ hb))) : ∀ b ∈ L113, b ∈ (D82 :: (L113 ++ []))) b_ hb_)).2.1) n129) : ∀ b ∈ L113, b ≠ D128)) w168)
        exact ⟨_, (acc160 ++ [v172]), eG159, S177, h178, (snoc_map h176), w179, (same_mut eo166 x175 n129), hw⟩
      intro H180 hw
      obtain ⟨G183, acc185, eG184, S181, h192, h182, w193, eo191, hw⟩ := hw
      have hw := hK127 _ (cW_mapA0 (by rw [List.length_map]) hw)
      have fr194 := S106.free n129
      refine ⟨_, h192, (app_len (OwAll.rpA w193 (encO_L encO_I) S181.sG) z121), ?_⟩
      generalize g195 : upd H180 D82 _ = H196
      obtain ⟨x197, h198⟩ := gen_mut g195
      have S199 := S181.mut1 x197 (.tail _ (.head _)) h198
      have hw := cW_ok hw
      exact ⟨_, (acc110 ++ [acc185]), _, (L113 ++ (D128 :: ([] : List Addr))), (Same.trans eG109 eG184), (S199.sub (all_cons (.tail _ (.head _)) (all_app (all_app ((fun b hb => (.tail _ (.tail _ (List.mem_append_left _ hb)))) : ∀ b ∈ L113, b ∈ (D128 :: (D82 :: (L113 ++ [])))) (all_cons (.head _) all_nil)) all_nil))), h198, (OwAll.mono (Same.refl _) (keeps_mut x197 ((all_app nd115 (all_cons (ne_of_none h107 n129).symm all_nil)) : ∀ b ∈ (L113 ++ (D128 :: ([] : List Addr))), b ≠ D82)) (OwAll.snocM w193 (Ow.ints h182) ((fun b hb => (nm_cons ((there_ne (fun b_ hb_ => (S106.ow b_ (((fun b hb => (.tail _ (List.mem_append_left _ hb))) : ∀ b ∈ L113, b ∈ (D82 :: (L113 ++ []))) b_ hb_)).2.1) n129) b hb) nm_nil)) : ∀ b ∈ L113, b ∉ (D128 :: ([] : List Addr))))), ((all_app nb114 (all_cons (none_of_same eo116 n129) all_nil)) : ∀ b ∈ (L113 ++ (D128 :: ([] : List Addr))), H b = none), ((all_app nd115 (all_cons (ne_of_none h107 n129).symm all_nil)) : ∀ b ∈ (L113 ++ (D128 :: ([] : List Addr))), b ≠ D82), (same_mut (Same.trans eo116 eo191) x197 n83), hw⟩
    intro H200 hw
    obtain ⟨G203, acc205, vs206, L208, eG204, S201, h202, d207, nb209, nd210, eo211, hw⟩ := hw
    have hw := hK81 _ (cW_mapA0 (by rw [d74.len, List.length_map]) hw)
    have fr212 := S0.free n83
    have hw := cW_ok hw
    exact hK0 _ hw _ _ _ _ _ fr212 ((fun b hb => Sep.h0 S201 (((fun b hb => (.tail _ (List.mem_append_left _ hb))) : ∀ b ∈ L208, b ∈ (D82 :: (L208 ++ []))) b hb) nm_nil) : ∀ b ∈ L208, H b = none) (nd210 : ∀ b ∈ L208, b ≠ D82) S201.b0 S201.g0 S201.sG S201.gn (S201.ow _ (.head _)).1 ((fun b hb => (S201.ow b (((fun b hb => (.tail _ (List.mem_append_left _ hb))) : ∀ b ∈ L208, b ∈ (D82 :: (L208 ++ []))) b hb)).1) : ∀ b ∈ L208, G203 b = none) h202 d207

abbrev N_restore_square : List Str := ["square", "quantizer", "step", "row", "level"]
theorem sc_restore_square : FnScope N_restore_square ["square", "quantizer"] (defScope s_restore_square) := ⟨rfl, rfl, rfl, by decide +kernel, rfl, by decide +kernel, by decide +kernel⟩
theorem ok_restore_square (D : DefX K mg "restore_square" s_restore_square ["square", "quantizer"] pats_restore_square) (T : Txt K mg AD) (c_step_of : CalX P w K mg base 1 "step_of" (sp_step_of K AD) pats_step_of) : CalX P w K mg base 2 "restore_square" (sp_restore_square K AD) pats_restore_square := by
  refine D.ok sc_restore_square (fun vs H Q E h => ?_) (fun f cdv A_ outer s H vs Q E hr h => ?_)
  · obtain ⟨G, v_square, square', quantizer', rfl, _⟩ := h
    rfl
  · obtain ⟨G, v_square, square', quantizer', rfl, sG, r_square, hw⟩ := h
    refine ⟨_, (pss_cons (ps_set (i := 2) sc_restore_square.nd rfl (Or.inr rfl) (vx_callX c_step_of pat_step_of_0 (.head _) hr (by decide) (takes_of rfl rfl rfl rfl) rfl (pa_cons (pv 1) pa_nil) pk_nil))
      (pss_one (ps_ret (pe_lc (own := [("row", 3)]) (g := gName 3) (by rfl) sc_restore_square.nd (pi_listK (K := K) (pv 0)) (blkOk_by (own := [("row", 3)]) (N := N_restore_square) (sc := defScope s_restore_square) (by decide +kernel)) (fun _ _ _ _ _ => (pg_name (i := 3) sc_restore_square.nd rfl (Or.inl rfl))) (fun _ _ _ _ _ => pts_nil) (fun _ _ _ _ _ => (pe_lc (own := [("level", 4)]) (g := gName 4) (by rfl) sc_restore_square.nd (pi_listK (K := K) (pv 3)) (blk_relabel (blkOk_by (own := [("level", 4)]) (N := N_restore_square) (by decide +kernel))) (fun _ _ _ _ _ => (pg_name (i := 4) sc_restore_square.nd rfl (Or.inl rfl))) (fun _ _ _ _ _ => pts_nil) (fun _ _ _ _ _ => (pe_op op_mul (pv 4) (pv 2))))))))), ?_⟩
    obtain ⟨KK, EE, hK0, hE, hw⟩ := cW_gen hw
    have S0 := Sep.startG sG
    unfold F_restore_square at hw
    obtain ⟨a213, vs214, rfl, h215, d216⟩ := rp_list r_square
    refine ⟨_, rfl, rfl, rfl, G, _, rfl, S0.sG, cW_call hw (fun v217 hw => ?_) (fun e he => hE e he _ S0.b0)⟩
    obtain ⟨K220, hK221, hw⟩ := cW_push hw
    refine ⟨_, rfl, _, rfl, ⟨_, (SqL.of (S0.bM _ _ h215))⟩, fun D222 n223 => lc_list (K := K) (a := a213) (xs := vs214) (fun i H' => ∃ (G' : Hp) (acc225 : (List (List Int))) (vs226 : List V) (L224 : List Addr), Same G G' ∧ Sep [] H G G' H' (D222 :: (L224 ++ [])) ∧ H' D222 = some (.lst vs226) ∧ OwAll G' H' L224 vs226 ((acc225 : (List (List Int))).map (oL oI)) ∧ (∀ b ∈ L224, H b = none) ∧ (∀ b ∈ L224, b ≠ D222) ∧ Same H H' ∧ cW (mapA (List.drop i (square')) acc225 (fun x => noEr (F_restore_square_c1 (v217) x))) K220 EE) ?_ ?_ ?_ ?_⟩
    · generalize g227 : upd H D222 _ = H228
      obtain ⟨e229, h230⟩ := gen_new n223 g227
      have fr231 := S0.free n223
      have S232 := S0.new n223 e229 h230 fr231
      exact ⟨_, [], [], [], Same.refl _, (S232.sub (all_cons (.head _) (all_app (L := []) all_nil all_nil))), h230, OwAll.nil, all_nil, all_nil, e229, hw⟩
    · intro i H233 _ hw
      obtain ⟨G236, acc238, vs239, L241, eG237, S234, h235, d240, nb242, nd243, eo244, hw⟩ := hw
      exact (SqL.of (S234.bM _ _ h215))
    · intro i x H245 hj hw
      obtain ⟨G248, acc250, vs251, L253, eG249, S246, h247, d252, nb254, nd255, eo256, hw⟩ := hw
      obtain ⟨x257, hx, r258⟩ := RpAll.get d216 hj
      obtain ⟨a259, rfl, h260⟩ := rp_ints r258
      obtain ⟨z261, hw⟩ := cW_mapA hx hw
      have hw := cW_noEr hw
      have hw : cW (F_restore_square_c1 (v217) (x257)) _ (fun _ => False) := hw
      unfold F_restore_square_c1 at hw
      refine ⟨rfl, ?_⟩
      refine tyes_go ?_
      obtain ⟨K265, hK266, hw⟩ := cW_push hw
      refine ⟨_, rfl, _, rfl, ⟨_, (SqL.of (S246.bM _ _ h260))⟩, fun D267 n268 => lc_list (K := K) (a := a259) (xs := (x257 : List Int).map V.int) (fun i2 H' => ∃ (G' : Hp) (acc270 : (List Int)), Same G248 G' ∧ Sep [] H G G' H' (D267 :: (D222 :: (L253 ++ []))) ∧ H' D222 = some (.lst (vs251)) ∧ H' D267 = some (.lst ((acc270 : (List Int)).map V.int)) ∧ OwAll G' H' L253 (vs251) ((acc250 : (List (List Int))).map (oL oI)) ∧ Same H245 H' ∧ cW (mapA (List.drop i2 (x257)) acc270 (fun x => noEr (F_restore_square_c2 (v217) x))) K265 (fun _ => False)) ?_ ?_ ?_ ?_⟩
      · generalize g272 : upd H245 D267 _ = H273
        obtain ⟨e274, h275⟩ := gen_new n268 g272
        have fr276 := S246.free n268
        have S277 := S246.new n268 e274 h275 fr276
        have h278 := (e274 _ _ h247)
        have w279 : OwAll G248 H273 L253 (vs251) ((acc250 : (List (List Int))).map (oL oI)) := (OwAll.mono (Same.refl _) (keeps_same e274) d252)
        exact ⟨_, [], Same.refl _, S277, h278, h275, w279, e274, hw⟩
      · intro i2 H280 _ hw
        obtain ⟨G283, acc285, eG284, S281, h292, h282, w293, eo291, hw⟩ := hw
        exact (SqL.of (S281.bM _ _ h260))
      · intro i2 x H294 hj hw
        obtain ⟨G297, acc299, eG298, S295, h306, h296, w307, eo305, hw⟩ := hw
        obtain ⟨x308, hx, rfl⟩ := map_get hj
        obtain ⟨z309, hw⟩ := cW_mapA hx hw
        have hw := cW_noEr hw
        have hw : cW (F_restore_square_c2 (v217) (x308)) _ (fun _ => False) := hw
        unfold F_restore_square_c2 at hw
        refine ⟨rfl, ?_⟩
        refine tyes_go ?_
        obtain ⟨g311, hw⟩ := cW_grd hw
        refine ⟨_, rfl, _, rfl, _, _, rfl, rfl, g311, _, h296, (app_lenM z309), ?_⟩
        generalize g312 : upd H294 D267 _ = H313
        obtain ⟨x314, h315⟩ := gen_mut g312
        have S316 := S295.mut1 x314 (.head _) h315
        have hw := cW_ok hw
        have h317 := (x314 _ _ h306 (ne_of_none h247 n268))
        have w318 : OwAll G297 H313 L253 (vs251) ((acc250 : (List (List Int))).map (oL oI)) := (OwAll.mono (Same.refl _) (keeps_mut x314 ((there_ne (fun b_ hb_ => (S246.ow b_ (((fun b hb => (.tail _ (List.mem_append_left _ hb))) : ∀ b ∈ L253, b ∈ (D222 :: (L253 ++ []))) b_ hb_)).2.1) n268) : ∀ b ∈ L253, b ≠ D267)) w307)
        exact ⟨_, (acc299 ++ [(x308 * v217)]), eG298, S316, h317, (snoc_map h315), w318, (same_mut eo305 x314 n268), hw⟩
      intro H319 hw
      obtain ⟨G322, acc324, eG323, S320, h331, h321, w332, eo330, hw⟩ := hw
      have hw := hK266 _ (cW_mapA0 (by rw [List.length_map]) hw)
      have fr333 := S246.free n268
      refine ⟨_, h331, (app_len (OwAll.rpA w332 (encO_L encO_I) S320.sG) z261), ?_⟩
      generalize g334 : upd H319 D222 _ = H335
      obtain ⟨x336, h337⟩ := gen_mut g334
      have S338 := S320.mut1 x336 (.tail _ (.head _)) h337
      have hw := cW_ok hw
      exact ⟨_, (acc250 ++ [acc324]), _, (L253 ++ (D267 :: ([] : List Addr))), (Same.trans eG249 eG323), (S338.sub (all_cons (.tail _ (.head _)) (all_app (all_app ((fun b hb => (.tail _ (.tail _ (List.mem_append_left _ hb)))) : ∀ b ∈ L253, b ∈ (D267 :: (D222 :: (L253 ++ [])))) (all_cons (.head _) all_nil)) all_nil))), h337, (OwAll.mono (Same.refl _) (keeps_mut x336 ((all_app nd255 (all_cons (ne_of_none h247 n268).symm all_nil)) : ∀ b ∈ (L253 ++ (D267 :: ([] : List Addr))), b ≠ D222)) (OwAll.snocM w332 (Ow.ints h321) ((fun b hb => (nm_cons ((there_ne (fun b_ hb_ => (S246.ow b_ (((fun b hb => (.tail _ (List.mem_append_left _ hb))) : ∀ b ∈ L253, b ∈ (D222 :: (L253 ++ []))) b_ hb_)).2.1) n268) b hb) nm_nil)) : ∀ b ∈ L253, b ∉ (D267 :: ([] : List Addr))))), ((all_app nb254 (all_cons (none_of_same eo256 n268) all_nil)) : ∀ b ∈ (L253 ++ (D267 :: ([] : List Addr))), H b = none), ((all_app nd255 (all_cons (ne_of_none h247 n268).symm all_nil)) : ∀ b ∈ (L253 ++ (D267 :: ([] : List Addr))), b ≠ D222), (same_mut (Same.trans eo256 eo330) x336 n223), hw⟩
    intro H339 hw
    obtain ⟨G342, acc344, vs345, L347, eG343, S340, h341, d346, nb348, nd349, eo350, hw⟩ := hw
    have hw := hK221 _ (cW_mapA0 (by rw [d216.len, List.length_map]) hw)
    have fr351 := S0.free n223
    have hw := cW_ok hw
    exact hK0 _ hw _ _ _ _ _ fr351 ((fun b hb => Sep.h0 S340 (((fun b hb => (.tail _ (List.mem_append_left _ hb))) : ∀ b ∈ L347, b ∈ (D222 :: (L347 ++ []))) b hb) nm_nil) : ∀ b ∈ L347, H b = none) (nd349 : ∀ b ∈ L347, b ≠ D222) S340.b0 S340.g0 S340.sG S340.gn (S340.ow _ (.head _)).1 ((fun b hb => (S340.ow b (((fun b hb => (.tail _ (List.mem_append_left _ hb))) : ∀ b ∈ L347, b ∈ (D222 :: (L347 ++ []))) b hb)).1) : ∀ b ∈ L347, G342 b = none) h341 d346

abbrev N__law_cell : List Str := ["script", "k"]
theorem sc__law_cell : FnScope N__law_cell ["script", "k"] (defScope s__law_cell) := ⟨rfl, rfl, rfl, by decide +kernel, rfl, by decide +kernel, by decide +kernel⟩
theorem ok__law_cell (D : DefX K mg "_law_cell" s__law_cell ["script", "k"] pats__law_cell) (T : Txt K mg AD)  : CalX P w K mg base 1 "_law_cell" (sp__law_cell K AD) pats__law_cell := by
  refine D.ok sc__law_cell (fun vs H Q E h => ?_) (fun f cdv A_ outer s H vs Q E hr h => ?_)
  · obtain ⟨G, a_script, script', k', rfl, _⟩ := h
    rfl
  · obtain ⟨G, a_script, script', k', rfl, sG, q_script, hw⟩ := h
    refine ⟨_, (pss_cons (ps_if (pt_cmp (pc_lt (pv 1) (pe_callB (call_lenLiK (K := K)) (by rfl) T.b_len (by decide +kernel) (pa_cons (pv 0) pa_nil)))) (pss_one (ps_ret (pe_callB call_abs (by rfl) T.b_abs (by decide +kernel) (pa_cons (pe_callTy call_int1 (by rfl) T.b_int (by decide +kernel) (pa_cons (pe_ix (ix_listK (K := K)) (pv 0) (pv 1) (fun _ _ => rfl)) pa_nil)) pa_nil)))) pss_nil)
      (pss_one (ps_ret pe_int))), ?_⟩
    obtain ⟨KK, EE, hK0, hE, hw⟩ := cW_gen hw
    have S0 := Sep.startG sG
    unfold F__law_cell at hw
    refine ⟨_, rfl, _, rfl, _, _, rfl, (S0.b0.seq q_script), _, _, rfl, rfl, _, rfl, ?_⟩
    refine iteD (fun c352 => ?_) (fun c352 => ?_)
    · have hw := cW_pos c352 hw
      obtain ⟨g353, hw⟩ := cW_grd hw
      refine ⟨_, rfl, _, rfl, _, _, _, _, rfl, rfl, (S0.b0.seq q_script), (atI_map g353), .inl ⟨_, rfl, ?_⟩⟩
      refine ⟨_, rfl, ?_⟩
      have hw := cW_ok hw
      exact hK0 _ hw
    · have hw := cW_neg c352 hw
      have hw := cW_ok hw
      exact hK0 _ hw

abbrev N__law_is_square : List Str := ["actual", "size", "row", "item"]
theorem sc__law_is_square : FnScope N__law_is_square ["actual", "size"] (defScope s__law_is_square) := ⟨rfl, rfl, rfl, by decide +kernel, rfl, by decide +kernel, by decide +kernel⟩
theorem ok__law_is_square (D : DefX K mg "_law_is_square" s__law_is_square ["actual", "size"] pats__law_is_square) (T : Txt K mg AD)  : CalX P w K mg base 1 "_law_is_square" (sp__law_is_square K AD) pats__law_is_square := by
  refine D.ok sc__law_is_square (fun vs H Q E h => ?_) (fun f cdv A_ outer s H vs Q E hr h => ?_)
  · obtain ⟨G, v_actual, actual', size', rfl, _⟩ := h
    rfl
  · obtain ⟨G, v_actual, actual', size', rfl, sG, r_actual, hw⟩ := h
    refine ⟨_, (pss_cons (ps_if (PW.pt (pw_or (pt_not (pt_val (pe_callB call_isi (by rfl) T.b_isinstance (by decide +kernel) (pa_cons (pv 0) (pa_cons (pe_bltn (v := V.ty "list") (u := Value.type "list") (by rfl) T.b_list (by decide +kernel) rfl) pa_nil))))) (pw_or1 (pt_cmp (pc_neI (pe_callB (call_lenLK (K := K)) (by rfl) T.b_len (by decide +kernel) (pa_cons (pv 0) pa_nil)) (pv 1)))))) (pss_one (ps_ret pe_bl)) pss_nil)
      (pss_cons (ps_for (passes_of rfl) rfl (pi_listK (K := K) (pv 0)) (pg_name (i := 2) sc__law_is_square.nd rfl (Or.inl rfl)) (pss_cons (ps_if (PW.pt (pw_or (pt_not (pt_val (pe_callB call_isi (by rfl) T.b_isinstance (by decide +kernel) (pa_cons (pv 2) (pa_cons (pe_bltn (v := V.ty "list") (u := Value.type "list") (by rfl) T.b_list (by decide +kernel) rfl) pa_nil))))) (pw_or1 (pt_cmp (pc_neI (pe_callB (call_lenLiK (K := K)) (by rfl) T.b_len (by decide +kernel) (pa_cons (pv 2) pa_nil)) (pv 1)))))) (pss_one (ps_ret pe_bl)) pss_nil)
      (pss_one (ps_for (passes_of rfl) rfl (pi_listK (K := K) (pv 2)) (pg_name (i := 3) sc__law_is_square.nd rfl (Or.inl rfl)) (pss_one (ps_if (PW.pt (pw_or (pt_not (pt_val (pe_callB call_isi (by rfl) T.b_isinstance (by decide +kernel) (pa_cons (pv 3) (pa_cons (pe_bltn (v := V.ty "int") (u := Value.type "int") (by rfl) T.b_int (by decide +kernel) rfl) pa_nil))))) (pw_or1 (pt_val (pe_callB call_isi (by rfl) T.b_isinstance (by decide +kernel) (pa_cons (pv 3) (pa_cons (pe_bltn (v := V.ty "bool") (u := Value.type "bool") (by rfl) T.b_bool (by decide +kernel) rfl) pa_nil))))))) (pss_one (ps_ret pe_bl)) pss_nil))))))
      (pss_one (ps_ret pe_bl)))), ?_⟩
    obtain ⟨KK, EE, hK0, hE, hw⟩ := cW_gen hw
    have S0 := Sep.startG sG
    unfold F__law_is_square at hw
    obtain ⟨a354, vs355, rfl, h356, d357⟩ := rp_list r_actual
    refine ⟨_, rfl, _, _, _, _, _, rfl, (.ty _), (.base (.lst (S0.bM _ _ h356))), rfl, _, rfl, ?_⟩
    refine iteF ?_
    refine ⟨_, rfl, _, _, _, rfl, (SqL.of (S0.bM _ _ h356)), (by rw [d357.len, List.length_map]), _, rfl, _, _, rfl, rfl, _, rfl, ?_⟩
    refine iteN (fun c358 => ?_) (fun c358 => ?_)
    · have hw := cW_neg c358 hw
      have hw := cW_ok hw
      exact hK0 _ hw _ S0.b0
    · have hw := cW_pos c358 hw
      obtain ⟨K360, hK361, hw⟩ := cW_push hw
      refine ⟨_, rfl, _, rfl, ⟨_, (SqL.of (S0.bM _ _ h356))⟩, for_list (K := K) (a := a354) (xs := vs355) (fun i σ H' => ∃ (u362 : Option V) (u363 : Option V) (G' : Hp), σ = [some (V.ref a354), some (V.int (size')), u362, u363] ∧ Same G G' ∧ Sep [] H G G' H' [] ∧ cW (forR (List.drop i (actual')) () (fun s x => F__law_is_square_b1 (size')  x)) K360 EE) ?_ ?_ ?_ ?_⟩
      · exact ⟨_, _, _, rfl, (Same.refl _), S0, hw⟩
      · intro i σ H364 _ hw
        obtain ⟨u362, u363, G366, rfl, eG367, S365, hw⟩ := hw
        exact (SqL.of (S365.bM _ _ h356))
      · intro i x σ H368 hj hw
        obtain ⟨u362, u363, G370, rfl, eG371, S369, hw⟩ := hw
        obtain ⟨x372, hx, r373⟩ := RpAll.get d357 hj
        obtain ⟨a374, rfl, h375⟩ := rp_ints r373
        have hw := cW_forR hx hw
        have hw : cW (F__law_is_square_b1 (size')  (x372)) _ EE := hw
        unfold F__law_is_square_b1 at hw
        obtain ⟨K376, hK377, hw⟩ := cW_name hw
        refine ⟨_, rfl, _, _, _, _, _, rfl, (.ty _), (.base (.lst (S369.bM _ _ h375))), rfl, _, rfl, ?_⟩
        refine iteF ?_
        refine ⟨_, rfl, _, _, rfl, (SqL.of (S369.bM _ _ h375)), _, rfl, _, _, rfl, rfl, _, rfl, ?_⟩
        refine iteN (fun c379 => ?_) (fun c379 => ?_)
        · have hw := cW_neg c379 hw
          have hw := cW_ok hw
          have hw := hK377 (.rt _) hw
          have hw := hK361 (.rt _) hw
          have hw := cW_ok hw
          exact hK0 _ hw _ S369.b0
        · have hw := cW_pos c379 hw
          obtain ⟨K380, hK381, hw⟩ := cW_push hw
          refine ⟨_, rfl, _, rfl, ⟨_, (SqL.of (S369.bM _ _ h375))⟩, for_list (K := K) (a := a374) (xs := (x372 : List Int).map V.int) (fun i σ H' => ∃ (u382 : Option V) (G' : Hp), σ = [some (V.ref a354), some (V.int (size')), some (V.ref a374), u382] ∧ Same G370 G' ∧ Sep [] H G G' H' [] ∧ cW (forR (List.drop i (x372)) () (fun s x => F__law_is_square_b2   x)) K380 EE) ?_ ?_ ?_ ?_⟩
          · exact ⟨_, _, rfl, (Same.refl _), S369, hw⟩
          · intro i σ H383 _ hw
            obtain ⟨u382, G385, rfl, eG386, S384, hw⟩ := hw
            exact (SqL.of (S384.bM _ _ h375))
          · intro i x σ H387 hj hw
            obtain ⟨u382, G389, rfl, eG390, S388, hw⟩ := hw
            obtain ⟨x391, hx, rfl⟩ := map_get hj
            have hw := cW_forR hx hw
            have hw : cW (F__law_is_square_b2   (x391)) _ EE := hw
            unfold F__law_is_square_b2 at hw
            obtain ⟨K392, hK393, hw⟩ := cW_name hw
            refine ⟨_, rfl, _, _, _, _, _, rfl, (.ty _), (.base (.int _)), rfl, _, rfl, ?_⟩
            refine iteF ?_
            refine ⟨_, rfl, _, _, _, _, _, rfl, (.ty _), (.base (.int _)), rfl, _, rfl, ?_⟩
            refine iteF ?_
            have hw := cW_ok hw
            have hw := hK393 _ hw
            exact ⟨_, _, rfl, eG390, S388, hw⟩
          · intro σ H395 hw
            obtain ⟨u382, G397, rfl, eG398, S396, hw⟩ := hw
            have hw := hK381 _ (cW_forR0 (by rw [List.length_map]) hw)
            have hw : cW (F__law_is_square_r2  ) _ EE := hw
            unfold F__law_is_square_r2 at hw
            have hw := cW_ok hw
            have hw := hK377 _ hw
            exact ⟨_, _, _, rfl, (Same.trans eG371 eG398), S396, hw⟩
      · intro σ H399 hw
        obtain ⟨u362, u363, G401, rfl, eG402, S400, hw⟩ := hw
        have hw := hK361 _ (cW_forR0 (by rw [d357.len, List.length_map]) hw)
        have hw : cW (F__law_is_square_r1  ) _ EE := hw
        unfold F__law_is_square_r1 at hw
        have hw := cW_ok hw
        exact hK0 _ hw _ S400.b0

abbrev N__law_due : List Str := ["value", "step", "rounding", "level"]
theorem sc__law_due : FnScope N__law_due ["value", "step", "rounding"] (defScope s__law_due) := ⟨rfl, rfl, rfl, by decide +kernel, rfl, by decide +kernel, by decide +kernel⟩
theorem ok__law_due (D : DefX K mg "_law_due" s__law_due ["value", "step", "rounding"] pats__law_due) (T : Txt K mg AD)  : CalX P w K mg base 1 "_law_due" (sp__law_due K AD) pats__law_due := by
  refine D.ok sc__law_due (fun vs H Q E h => ?_) (fun f cdv A_ outer s H vs Q E hr h => ?_)
  · obtain ⟨G, value', step', rounding', rfl, _⟩ := h
    rfl
  · obtain ⟨G, value', step', rounding', rfl, sG, hw⟩ := h
    refine ⟨_, (pss_cons (ps_set (i := 3) sc__law_due.nd rfl (Or.inl rfl) (pe_op op_fdivW (pe_op op_add (pe_callB call_abs (by rfl) T.b_abs (by decide +kernel) (pa_cons (pv 0) pa_nil)) (pe_op op_fdivW (pe_op op_mul (pe_op op_sub (pv 1) pe_int) (pv 2)) pe_int)) (pv 1)))
      (pss_cons (ps_if (pt_cmp (pc_lt (pv 0) pe_int)) (pss_one (ps_ret (pe_un un_neg (pv 3)))) pss_nil)
      (pss_one (ps_ret (pv 3))))), ?_⟩
    obtain ⟨KK, EE, hK0, hE, hw⟩ := cW_gen hw
    have S0 := Sep.startG sG
    unfold F__law_due at hw
    obtain ⟨g403, hw⟩ := cW_grd hw
    obtain ⟨g404, hw⟩ := cW_grd hw
    refine ⟨_, rfl, _, rfl, _, rfl, _, _, rfl, rfl, _, rfl, _, _, rfl, rfl, g403, _, _, rfl, rfl, (divW_lit (by decide) (by decide)), _, _, rfl, rfl, _, rfl, _, _, rfl, rfl, (divW_small g404.1 g404.2), ?_⟩
    have hw := cW_bnd hw
    refine ⟨_, rfl, _, _, rfl, rfl, _, rfl, ?_⟩
    refine iteD (fun c406 => ?_) (fun c406 => ?_)
    · have hw := cW_pos c406 hw
      refine ⟨_, rfl, _, rfl, ?_⟩
      have hw := cW_ok hw
      exact hK0 _ hw
    · have hw := cW_neg c406 hw
      refine ⟨_, rfl, ?_⟩
      have hw := cW_ok hw
      exact hK0 _ hw

abbrev N__law_refused : List Str := ["rows", "quantizer", "rounding", "told"]
theorem sc__law_refused : FnScope N__law_refused ["rows", "quantizer", "rounding"] (defScope s__law_refused) := ⟨rfl, rfl, rfl, by decide +kernel, rfl, by decide +kernel, by decide +kernel⟩
theorem ok__law_refused (D : DefX K mg "_law_refused" s__law_refused ["rows", "quantizer", "rounding"] pats__law_refused) (T : Txt K mg AD) (c_quantize_square : CalX P w K mg base 2 "quantize_square" (sp_quantize_square K AD) pats_quantize_square) (c_restore_square : CalX P w K mg base 2 "restore_square" (sp_restore_square K AD) pats_restore_square) : CalX P w K mg base 3 "_law_refused" (sp__law_refused K AD) pats__law_refused := by
  refine D.ok sc__law_refused (fun vs H Q E h => ?_) (fun f cdv A_ outer s H vs Q E hr h => ?_)
  · obtain ⟨G, v_rows, rows', quantizer', rounding', rfl, _⟩ := h
    rfl
  · obtain ⟨G, v_rows, rows', quantizer', rounding', rfl, sG, r_rows, hw⟩ := h
    refine ⟨_, (pss_cons (ps_set (i := 3) sc__law_refused.nd rfl (Or.inl rfl) pe_int)
      (C8.pss_cut (ps_try_only rfl rfl ⟨rfl, by decide, .inl T.xg_OutOfRange⟩ (takes_of rfl rfl rfl rfl) (fun W pn xe tk pse => (pss_one (ps_expr (vx_callX c_quantize_square pat_quantize_square_0 (.head _) hr (by decide) tk rfl (pa_cons (pv 0) pa_nil) (pk_cons (pv 1) (pk_cons (pv 2) pk_nil)))))) (fun a oe cls d pn _ _ => (pss_one (ps_aug (i := 3) sc__law_refused.nd rfl (Or.inl rfl) pe_int (pip iop_add)))))
      (pss_cons (ps_if (pt_chain op_le op_le pe_int (pv 1) pe_int) (pss_one (ps_ret (pe_cmp (pc_eqI (pv 3) pe_int)))) pss_nil)
      (C8.pss_cut (ps_try_only rfl rfl ⟨rfl, by decide, .inl T.xg_OutOfRange⟩ (takes_of rfl rfl rfl rfl) (fun W pn xe tk pse => (pss_one (ps_expr (vx_callX c_restore_square pat_restore_square_0 (.head _) hr (by decide) tk rfl (pa_cons (pv 0) (pa_cons (pv 1) pa_nil)) pk_nil)))) (fun a oe cls d pn _ _ => (pss_one (ps_aug (i := 3) sc__law_refused.nd rfl (Or.inl rfl) pe_int (pip iop_add)))))
      (pss_one (ps_ret (pe_cmp (pc_eqI (pv 3) pe_int)))))))), ?_⟩
    obtain ⟨KK, EE, hK0, hE, hw⟩ := cW_gen hw
    have S0 := Sep.startG sG
    unfold F__law_refused at hw
    obtain ⟨a407, vs408, rfl, h409, d410⟩ := rp_list r_rows
    refine ⟨fun σ H' => ∃ (told_414 : Int) (G' : Hp), σ = [some (V.ref a407), some (V.int (quantizer')), some (V.int (rounding')), some (V.int told_414)] ∧ Same G G' ∧ Sep [] H G G' H' [] ∧ cW (F__law_refused_k1 (rows') (quantizer') told_414) KK EE, ?_, ?_⟩
    · obtain ⟨K415, hK416, hw⟩ := cW_push hw
      refine ⟨_, rfl, _, rfl, _, rfl, rfl, rfl, G, _, _, _, _, rfl, S0.sG, (Rp.hide_nil (rp_mk_list (S0.bM _ _ h409) (RpAll.mono S0.bM d410))), cW_try hw (fun v417 hw H418 a420 vs421 L422 G423 n424 nb425 nd426 e419 eG427 sG428 hn429 ga430 gL431 h432 w433 => ?_) ?_⟩
      · have fr434 := S0.free n424
        have S435 : Sep _ _ _ _ H418 (a420 :: (L422 ++ [])) := Sep.steptree S0 e419 eG427 sG428 hn429 (a420 :: L422) (all_cons ⟨n424, ga430, some_ne h432⟩ (fun b hb => ⟨nb425 b hb, gL431 b hb, OwAll.there w433 b hb⟩))
        have hw := cW_ok hw
        have hw := hK416 _ hw
        exact ⟨(0), _, rfl, eG427, (S435.sub all_nil), hw⟩
      · intro e hm hw H436 e437
        have S438 := S0.same e437
        obtain rfl := mem_one hm
        refine ⟨true, T.xm_OutOfRange_OutOfRange, fun _ _ _ => ?_, fun q => nomatch q⟩
        refine ⟨_, rfl, _, _, rfl, rfl, ?_⟩
        have hw := cW_bnd hw
        have hw := cW_ok hw
        have hw := hK416 _ hw
        exact ⟨((0 + 1)), _, rfl, (Same.refl _), S438, hw⟩
    · intro σ H440 hw
      obtain ⟨told_414, G442, rfl, eG443, S441, hw⟩ := hw
      unfold F__law_refused_k1 at hw
      refine ⟨_, rfl, _, _, rfl, rfl, _, rfl, ?_⟩
      refine iteD (fun c444 => ?_) (fun c444 => ?_)
      · have hw := cW_pos c444 hw
        refine ⟨_, _, rfl, rfl, _, rfl, ?_⟩
        refine iteD (fun c445 => ?_) (fun c445 => ?_)
        · have hw := cW_pos c445 hw
          refine ⟨_, rfl, _, _, rfl, rfl, ?_⟩
          have hw := cW_ok hw
          exact hK0 _ hw _ S441.b0
        · have hw := cW_neg c445 hw
          refine ⟨fun σ H' => ∃ (told_447 : Int) (G' : Hp), σ = [some (V.ref a407), some (V.int (quantizer')), some (V.int (rounding')), some (V.int told_447)] ∧ Same G442 G' ∧ Sep [] H G G' H' [] ∧ cW (F__law_refused_k2  told_447) KK EE, ?_, ?_⟩
          · obtain ⟨K448, hK449, hw⟩ := cW_push hw
            refine ⟨_, rfl, _, rfl, rfl, rfl, G442, _, _, _, rfl, S441.sG, (Rp.hide_nil (rp_mk_list (S441.bM _ _ h409) (RpAll.mono S441.bM d410))), cW_try hw (fun v450 hw H451 a453 vs454 L455 G456 n457 nb458 nd459 e452 eG460 sG461 hn462 ga463 gL464 h465 w466 => ?_) ?_⟩
            · have fr467 := S441.free n457
              have S468 : Sep _ _ _ _ H451 (a453 :: (L455 ++ [])) := Sep.steptree S441 e452 eG460 sG461 hn462 (a453 :: L455) (all_cons ⟨n457, ga463, some_ne h465⟩ (fun b hb => ⟨nb458 b hb, gL464 b hb, OwAll.there w466 b hb⟩))
              have hw := cW_ok hw
              have hw := hK449 _ hw
              exact ⟨(told_414), _, rfl, eG460, (S468.sub all_nil), hw⟩
            · intro e hm hw H469 e470
              have S471 := S441.same e470
              obtain rfl := mem_one hm
              refine ⟨true, T.xm_OutOfRange_OutOfRange, fun _ _ _ => ?_, fun q => nomatch q⟩
              refine ⟨_, rfl, _, _, rfl, rfl, ?_⟩
              have hw := cW_bnd hw
              have hw := cW_ok hw
              have hw := hK449 _ hw
              exact ⟨((told_414 + 1)), _, rfl, (Same.refl _), S471, hw⟩
          · intro σ H473 hw
            obtain ⟨told_447, G475, rfl, eG476, S474, hw⟩ := hw
            unfold F__law_refused_k2 at hw
            refine ⟨_, rfl, _, _, rfl, rfl, ?_⟩
            have hw := cW_ok hw
            exact hK0 _ hw _ S474.b0
      · have hw := cW_neg c444 hw
        refine ⟨_, rfl, ?_⟩
        refine iteF ?_
        refine ⟨fun σ H' => ∃ (told_478 : Int) (G' : Hp), σ = [some (V.ref a407), some (V.int (quantizer')), some (V.int (rounding')), some (V.int told_478)] ∧ Same G442 G' ∧ Sep [] H G G' H' [] ∧ cW (F__law_refused_k3  told_478) KK EE, ?_, ?_⟩
        · obtain ⟨K479, hK480, hw⟩ := cW_push hw
          refine ⟨_, rfl, _, rfl, rfl, rfl, G442, _, _, _, rfl, S441.sG, (Rp.hide_nil (rp_mk_list (S441.bM _ _ h409) (RpAll.mono S441.bM d410))), cW_try hw (fun v481 hw H482 a484 vs485 L486 G487 n488 nb489 nd490 e483 eG491 sG492 hn493 ga494 gL495 h496 w497 => ?_) ?_⟩
          · have fr498 := S441.free n488
            have S499 : Sep _ _ _ _ H482 (a484 :: (L486 ++ [])) := Sep.steptree S441 e483 eG491 sG492 hn493 (a484 :: L486) (all_cons ⟨n488, ga494, some_ne h496⟩ (fun b hb => ⟨nb489 b hb, gL495 b hb, OwAll.there w497 b hb⟩))
            have hw := cW_ok hw
            have hw := hK480 _ hw
            exact ⟨(told_414), _, rfl, eG491, (S499.sub all_nil), hw⟩
          · intro e hm hw H500 e501
            have S502 := S441.same e501
            obtain rfl := mem_one hm
            refine ⟨true, T.xm_OutOfRange_OutOfRange, fun _ _ _ => ?_, fun q => nomatch q⟩
            refine ⟨_, rfl, _, _, rfl, rfl, ?_⟩
            have hw := cW_bnd hw
            have hw := cW_ok hw
            have hw := hK480 _ hw
            exact ⟨((told_414 + 1)), _, rfl, (Same.refl _), S502, hw⟩
        · intro σ H504 hw
          obtain ⟨told_478, G506, rfl, eG507, S505, hw⟩ := hw
          unfold F__law_refused_k3 at hw
          refine ⟨_, rfl, _, _, rfl, rfl, ?_⟩
          have hw := cW_ok hw
          exact hK0 _ hw _ S505.b0

abbrev N_law : List Str := ["script", "k", "cell", "size", "quantizer", "rounding", "most", "digits", "rows", "kept", "step", "levels", "usual", "told", "values", "j", "i", "due"]
theorem sc_law : FnScope N_law ["script"] (defScope s_law) := ⟨rfl, rfl, rfl, by decide +kernel, rfl, by decide +kernel, by decide +kernel⟩
theorem ok_law {f : Addr} {fd : FuncData} (F : FunD K "law" "law" (defArgs s_law) (defBody s_law) (defScope s_law) [] [] f fd) (T : Txt K mg AD) (c__law_cell : CalX P w K mg base 1 "_law_cell" (sp__law_cell K AD) pats__law_cell) (c__law_digits : CalX P w K mg base 1 "_law_digits" (sp__law_digits K AD) pats__law_digits) (c_quantize_square : CalX P w K mg base 2 "quantize_square" (sp_quantize_square K AD) pats_quantize_square) (c__law_is_square : CalX P w K mg base 1 "_law_is_square" (sp__law_is_square K AD) pats__law_is_square) (c_restore_square : CalX P w K mg base 2 "restore_square" (sp_restore_square K AD) pats_restore_square) (c__law_due : CalX P w K mg base 1 "_law_due" (sp__law_due K AD) pats__law_due) (c__law_refused : CalX P w K mg base 3 "_law_refused" (sp__law_refused K AD) pats__law_refused) : FnG P w K mg base CX0 4 f fd ["script"] (sp_law K AD) := by
  refine FnG.bodyN F sc_law (fun vs H Q E h => ?_) (fun cdv A_ outer s H vs Q E hr h => ?_)
  · obtain ⟨a_script, script, rfl, _⟩ := h
    rfl
  · obtain ⟨a_script, script', rfl, q_script, hw, k⟩ := h
    refine ⟨_, (pss_cons (ps_for PassesOwn.never rfl (pi_range1 rfl T.b_range (pa_cons (pe_callB (call_min2 rfl) (by rfl) T.b_min (by decide +kernel) (pa_cons (pe_op op_add pe_int (pe_callB (call_lenLiK (K := K)) (by rfl) T.b_len (by decide +kernel) (pa_cons (pv 0) pa_nil))) (pa_cons pe_int pa_nil))) pa_nil)) (pg_name (i := 1) sc_law.nd rfl (Or.inl rfl)) (pss_cons (ps_set (i := 2) sc_law.nd rfl (Or.inl rfl) (pe_op op_add (vx_callX c__law_cell pat__law_cell_0 (.head _) hr (by decide) takes0 rfl (pa_cons (pv 0) (pa_cons (pv 1) pa_nil)) pk_nil) (pv 1)))
      (pss_cons (ps_set (i := 3) sc_law.nd rfl (Or.inr rfl) (pe_op op_add pe_int (pe_op op_mul pe_int (pe_op op_mod (pv 2) pe_int))))
      (pss_cons (ps_set (i := 4) sc_law.nd rfl (Or.inl rfl) (pe_op op_mod (pe_op op_fdivW (pv 2) pe_int) pe_int))
      (pss_cons (ps_set (i := 5) sc_law.nd rfl (Or.inl rfl) (pe_op op_mod (pe_op op_fdivW (pv 2) pe_int) pe_int))
      (pss_cons (ps_set (i := 6) sc_law.nd rfl (Or.inr rfl) (pe_ix (ix_listK (K := K)) (pe_lst (pa_cons pe_int (pa_cons pe_int (pa_cons pe_int pa_nil)))) (pe_op op_mod (pe_op op_fdivW (pv 2) pe_int) pe_int) (fun _ _ => rfl)))
      (pss_cons (ps_set (i := 7) sc_law.nd rfl (Or.inr rfl) (vx_callX c__law_digits pat__law_digits_0 (.head _) hr (by decide) takes0 rfl (pa_cons (pv 2) (pa_cons (pe_op op_add (pe_op op_mul pe_int (pv 6)) pe_int) (pa_cons (pe_op op_mul (pv 3) (pv 3)) pa_nil))) pk_nil))
      (pss_cons (ps_setLc (i := 8) (y := "rows") rfl sc_law.nd rfl rfl (sw_true rfl rfl rfl (by decide +kernel)) (own := [("j", 15)]) (g := gName 15) (pi_range1 rfl T.b_range (pa_cons (pv 3) pa_nil)) (blkOk_by (own := [("j", 15)]) (N := N_law) (sc := defScope s_law) (by decide +kernel)) (fun _ _ _ _ _ => (pg_name (i := 15) sc_law.nd rfl (Or.inr rfl))) (fun _ _ _ _ _ => pts_nil) (fun _ _ _ _ _ => (pe_lc (own := [("i", 16)]) (g := gName 16) (by rfl) sc_law.nd (pi_range1 rfl T.b_range (pa_cons (pv 3) pa_nil)) (blk_relabel (blkOk_by (own := [("i", 16)]) (N := N_law) (by decide +kernel))) (fun _ _ _ _ _ => (pg_name (i := 16) sc_law.nd rfl (Or.inl rfl))) (fun _ _ _ _ _ => pts_nil) (fun _ _ _ _ _ => (pe_op op_sub (pe_ix (ix_listK (K := K)) (pv 7) (pe_op op_add (pe_op op_mul (pv 15) (pv 3)) (pv 16)) (fun _ _ => rfl)) (pv 6))))))
      (pss_cons (ps_set (i := 9) sc_law.nd rfl (Or.inl rfl) (pe_callB (call_reprD hr.gd hr.units) (by rfl) T.b_repr (by decide +kernel) (pa_cons (pv 8) pa_nil)))
      (pss_cons (ps_set (i := 10) sc_law.nd rfl (Or.inl rfl) (pe_op op_add (pe_op op_add pe_int (pv 4)) (pe_op op_fdivW (pe_op op_mul (pv 4) (pv 4)) pe_int)))
      (pss_cons (ps_set (i := 11) sc_law.nd rfl (Or.inl rfl) (vx_callX c_quantize_square pat_quantize_square_0 (.head _) hr (by decide) takes0 rfl (pa_cons (pv 8) pa_nil) (pk_cons (pv 4) (pk_cons (pv 5) pk_nil))))
      (pss_cons (ps_set (i := 12) sc_law.nd rfl (Or.inl rfl) (vx_callX c_quantize_square pat_quantize_square_1 (.tail _ (.head _)) hr (by decide) takes0 rfl (pa_cons (pv 8) pa_nil) (pk_cons (pv 4) pk_nil)))
      (pss_cons (ps_if (PW.pt (pw_or (pt_not (pt_val (vx_callX c__law_is_square pat__law_is_square_0 (.head _) hr (by decide) takes0 rfl (pa_cons (pv 11) (pa_cons (pv 3) pa_nil)) pk_nil))) (pw_or (pt_not (pt_val (vx_callX c__law_is_square pat__law_is_square_0 (.head _) hr (by decide) takes0 rfl (pa_cons (pv 12) (pa_cons (pv 3) pa_nil)) pk_nil))) (pw_or1 (pt_cmpR op_ne (pe_callB (call_reprD hr.gd hr.units) (by rfl) T.b_repr (by decide +kernel) (pa_cons (pv 8) pa_nil)) (pv 9) (nomark _)))))) (pss_one (ps_ret pe_bl)) pss_nil)
      (pss_cons (ps_set (i := 13) sc_law.nd rfl (Or.inl rfl) (pe_callB (call_reprD hr.gd hr.units) (by rfl) T.b_repr (by decide +kernel) (pa_cons (pv 11) pa_nil)))
      (pss_cons (ps_set (i := 14) sc_law.nd rfl (Or.inl rfl) (vx_callX c_restore_square pat_restore_square_0 (.head _) hr (by decide) takes0 rfl (pa_cons (pv 11) (pa_cons (pv 4) pa_nil)) pk_nil))
      (pss_cons (ps_if (PW.pt (pw_or (pt_not (pt_val (vx_callX c__law_is_square pat__law_is_square_0 (.head _) hr (by decide) takes0 rfl (pa_cons (pv 14) (pa_cons (pv 3) pa_nil)) pk_nil))) (pw_or1 (pt_cmpR op_ne (pe_callB (call_reprD hr.gd hr.units) (by rfl) T.b_repr (by decide +kernel) (pa_cons (pv 11) pa_nil)) (pv 13) (nomark _))))) (pss_one (ps_ret pe_bl)) pss_nil)
      (pss_cons (ps_for PassesOwn.never rfl (pi_range1 rfl T.b_range (pa_cons (pv 3) pa_nil)) (pg_name (i := 15) sc_law.nd rfl (Or.inl rfl)) (pss_one (ps_for PassesOwn.never rfl (pi_range1 rfl T.b_range (pa_cons (pv 3) pa_nil)) (pg_name (i := 16) sc_law.nd rfl (Or.inl rfl)) (pss_cons (ps_set (i := 17) sc_law.nd rfl (Or.inl rfl) (vx_callX c__law_due pat__law_due_0 (.head _) hr (by decide) takes0 rfl (pa_cons (pe_ix (ix_listK (K := K)) (pe_ix (ix_listK (K := K)) (pv 8) (pv 15) (fun _ _ => rfl)) (pv 16) (fun _ _ => rfl)) (pa_cons (pv 10) (pa_cons (pv 5) pa_nil))) pk_nil))
      (pss_cons (ps_if (PW.pt (pw_or (pt_cmp (pc_neI (pe_ix (ix_listK (K := K)) (pe_ix (ix_listK (K := K)) (pv 11) (pv 15) (fun _ _ => rfl)) (pv 16) (fun _ _ => rfl)) (pv 17))) (pw_or1 (pt_cmp (pc_neI (pe_ix (ix_listK (K := K)) (pe_ix (ix_listK (K := K)) (pv 12) (pv 15) (fun _ _ => rfl)) (pv 16) (fun _ _ => rfl)) (vx_callX c__law_due pat__law_due_0 (.head _) hr (by decide) takes0 rfl (pa_cons (pe_ix (ix_listK (K := K)) (pe_ix (ix_listK (K := K)) (pv 8) (pv 15) (fun _ _ => rfl)) (pv 16) (fun _ _ => rfl)) (pa_cons (pv 10) (pa_cons pe_int pa_nil))) pk_nil)))))) (pss_one (ps_ret pe_bl)) pss_nil)
      (pss_one (ps_if (pt_cmp (pc_neI (pe_ix (ix_listK (K := K)) (pe_ix (ix_listK (K := K)) (pv 14) (pv 15) (fun _ _ => rfl)) (pv 16) (fun _ _ => rfl)) (pe_op op_mul (pv 17) (pv 10)))) (pss_one (ps_ret pe_bl)) pss_nil)))))))
      (pss_cons (ps_set (i := 13) sc_law.nd rfl (Or.inl rfl) (pe_callB (call_reprD hr.gd hr.units) (by rfl) T.b_repr (by decide +kernel) (pa_cons (pe_lst (pa_cons (pv 14) (pa_cons (pv 12) pa_nil))) pa_nil)))
      (pss_cons (ps_asg (pe_op op_add (pe_ix (ix_listK (K := K)) (pe_ix (ix_listK (K := K)) (pv 11) (pe_op op_mod (pv 2) (pv 3)) (fun _ _ => rfl)) pe_int (fun _ _ => rfl)) pe_int) (pg_sub (pe_ix (ix_listK (K := K)) (pv 11) (pe_op op_mod (pv 2) (pv 3)) (fun _ _ => rfl)) pe_int set_list))
      (pss_cons (ps_if (PW.pt (pw_or (pt_cmpR op_ne (pe_callB (call_reprD hr.gd hr.units) (by rfl) T.b_repr (by decide +kernel) (pa_cons (pv 8) pa_nil)) (pv 9) (nomark _)) (pw_or1 (pt_cmpR op_ne (pe_callB (call_reprD hr.gd hr.units) (by rfl) T.b_repr (by decide +kernel) (pa_cons (pe_lst (pa_cons (pv 14) (pa_cons (pv 12) pa_nil))) pa_nil)) (pv 13) (nomark _))))) (pss_one (ps_ret pe_bl)) pss_nil)
      (pss_cons (ps_set (i := 13) sc_law.nd rfl (Or.inl rfl) (pe_callB (call_reprD hr.gd hr.units) (by rfl) T.b_repr (by decide +kernel) (pa_cons (pv 11) pa_nil)))
      (pss_cons (ps_asg (pe_op op_add (pe_ix (ix_listK (K := K)) (pe_ix (ix_listK (K := K)) (pv 14) pe_int (fun _ _ => rfl)) (pe_op op_mod (pv 2) (pv 3)) (fun _ _ => rfl)) pe_int) (pg_sub (pe_ix (ix_listK (K := K)) (pv 14) pe_int (fun _ _ => rfl)) (pe_op op_mod (pv 2) (pv 3)) set_list))
      (pss_cons (ps_asg (pe_op op_add (pe_ix (ix_listK (K := K)) (pe_ix (ix_listK (K := K)) (pv 12) pe_int (fun _ _ => rfl)) pe_int (fun _ _ => rfl)) pe_int) (pg_sub (pe_ix (ix_listK (K := K)) (pv 12) pe_int (fun _ _ => rfl)) pe_int set_list))
      (pss_cons (ps_if (PW.pt (pw_or (pt_cmpR op_ne (pe_callB (call_reprD hr.gd hr.units) (by rfl) T.b_repr (by decide +kernel) (pa_cons (pv 8) pa_nil)) (pv 9) (nomark _)) (pw_or1 (pt_cmpR op_ne (pe_callB (call_reprD hr.gd hr.units) (by rfl) T.b_repr (by decide +kernel) (pa_cons (pv 11) pa_nil)) (pv 13) (nomark _))))) (pss_one (ps_ret pe_bl)) pss_nil)
      (pss_cons (ps_if (PW.pt (pw_or (pt_not (pt_val (vx_callX c__law_refused pat__law_refused_0 (.head _) hr (by decide) takes0 rfl (pa_cons (pe_lst pa_nil) (pa_cons (pe_op op_add pe_int (pe_op op_mod (pv 2) pe_int)) (pa_cons (pv 5) pa_nil))) pk_nil))) (pw_or1 (pt_not (pt_val (vx_callX c__law_refused pat__law_refused_0 (.head _) hr (by decide) takes0 rfl (pa_cons (pe_lst pa_nil) (pa_cons (pv 4) (pa_cons (pe_op op_add pe_int (pe_op op_mod (pv 2) pe_int)) pa_nil))) pk_nil)))))) (pss_one (ps_ret pe_bl)) pss_nil)
      (pss_cons (ps_if (PW.pt (pw_or (pt_cmpR (op_neT (encOk_L (encOk_L encOk_int)) hr.units) (vx_callX c_quantize_square pat_quantize_square_0 (.head _) hr (by decide) takes0 rfl (pa_cons (pe_lst pa_nil) pa_nil) (pk_cons (pv 4) (pk_cons (pv 5) pk_nil))) (pe_lst pa_nil) (nomark _)) (pw_or1 (pt_cmpR (op_neT (encOk_L (encOk_L encOk_int)) hr.units) (vx_callX c_restore_square pat_restore_square_0 (.head _) hr (by decide) takes0 rfl (pa_cons (pe_lst pa_nil) (pa_cons (pv 4) pa_nil)) pk_nil) (pe_lst pa_nil) (nomark _))))) (pss_one (ps_ret pe_bl)) pss_nil)
      (pss_cons (ps_if (PW.pt (pw_or (pt_not (pt_val (vx_callX c__law_refused pat__law_refused_0 (.head _) hr (by decide) takes0 rfl (pa_cons (pv 8) (pa_cons (pe_op op_add pe_int (pe_op op_mod (pv 2) pe_int)) (pa_cons (pv 5) pa_nil))) pk_nil))) (pw_or1 (pt_not (pt_val (vx_callX c__law_refused pat__law_refused_0 (.head _) hr (by decide) takes0 rfl (pa_cons (pv 8) (pa_cons (pe_op op_sub (pe_un un_neg pe_int) (pe_op op_mod (pv 2) pe_int)) (pa_cons (pv 5) pa_nil))) pk_nil)))))) (pss_one (ps_ret pe_bl)) pss_nil)
      (pss_one (ps_if (PW.pt (pw_or (pt_not (pt_val (vx_callX c__law_refused pat__law_refused_0 (.head _) hr (by decide) takes0 rfl (pa_cons (pv 8) (pa_cons (pv 4) (pa_cons (pe_op op_add pe_int (pe_op op_mod (pv 2) pe_int)) pa_nil))) pk_nil))) (pw_or1 (pt_not (pt_val (vx_callX c__law_refused pat__law_refused_0 (.head _) hr (by decide) takes0 rfl (pa_cons (pv 8) (pa_cons (pv 4) (pa_cons (pe_op op_sub (pe_un un_neg pe_int) (pe_op op_mod (pv 2) pe_int)) pa_nil))) pk_nil)))))) (pss_one (ps_ret pe_bl)) pss_nil)))))))))))))))))))))))))))))
      (pss_one (ps_ret pe_bl))), ?_⟩
    obtain ⟨KK, EE, hK0, hE, hw⟩ := cW_gen hw
    have S0 := Sep.start0 H
    unfold F_law at hw
    obtain ⟨g508, hw⟩ := cW_grd hw
    obtain ⟨K510, hK511, hw⟩ := cW_push hw
    refine ⟨_, rfl, _, _, rfl, (S0.b0.seq q_script), _, _, rfl, rfl, _, _, rfl, _, rfl, g508.1, g508.2, for_range (lo := 0) (n := Int.toNat ((if 6 < (1 + (((script') : (List Int)).length : Int)) then 6 else (1 + (((script') : (List Int)).length : Int))))) (fun i σ H' => ∃ (u512 : Option V) (u513 : Option V) (u514 : Option V) (u515 : Option V) (u516 : Option V) (u517 : Option V) (u518 : Option V) (u519 : Option V) (u520 : Option V) (u521 : Option V) (u522 : Option V) (u523 : Option V) (u524 : Option V) (u525 : Option V) (u526 : Option V) (u527 : Option V) (u528 : Option V) (G' : Hp), σ = [some (V.ref a_script), u512, u513, u514, u515, u516, u517, u518, u519, u520, u521, u522, u523, u524, u525, u526, u527, u528] ∧ Same H G' ∧ Sep [] H H G' H' [] ∧ cW (forR (List.drop i (rng (0) (Int.toNat ((if 6 < (1 + (((script') : (List Int)).length : Int)) then 6 else (1 + (((script') : (List Int)).length : Int))))))) () (fun s x => F_law_b1 (script')  x)) K510 EE) ?_ ?_ ?_⟩
    · exact ⟨_, _, _, _, _, _, _, _, _, _, _, _, _, _, _, _, _, _, rfl, (Same.refl _), S0, hw⟩
    · intro i σ H529 hi hw
      obtain ⟨u512, u513, u514, u515, u516, u517, u518, u519, u520, u521, u522, u523, u524, u525, u526, u527, u528, G531, rfl, eG532, S530, hw⟩ := hw
      have hw := cW_forR (rng_get hi) hw
      generalize (0 + (i : Int)) = x533 at hw ⊢
      have hw : cW (F_law_b1 (script')  (x533)) _ EE := hw
      unfold F_law_b1 at hw
      obtain ⟨K534, hK535, hw⟩ := cW_name hw
      refine ⟨_, rfl, _, rfl, rfl, rfl, G531, _, _, _, rfl, S530.sG, (S530.b0.seq q_script), cW_call hw (fun v537 hw => ?_) (fun e he => (hE e he).elim)⟩
      refine ⟨_, rfl, _, _, rfl, rfl, ?_⟩
      have hw := cW_bnd hw
      refine ⟨_, rfl, _, _, rfl, rfl, (show (0 : Int) < 2 by decide), _, _, rfl, rfl, (.inl ⟨by decide, by decide⟩), _, _, rfl, rfl, ?_⟩
      have hw := cW_bnd hw
      refine ⟨_, rfl, _, _, rfl, rfl, (divW_lit (by decide) (by decide)), _, _, rfl, rfl, (show (0 : Int) < 32 by decide), ?_⟩
      have hw := cW_bnd hw
      refine ⟨_, rfl, _, _, rfl, rfl, (divW_lit (by decide) (by decide)), _, _, rfl, rfl, (show (0 : Int) < 9 by decide), ?_⟩
      have hw := cW_bnd hw
      refine ⟨(by show 3 ≤ sizeLine; decide), fun p542 n543 => ?_⟩
      generalize g544 : upd H529 p542 _ = H545
      obtain ⟨e546, h547⟩ := gen_new n543 g544
      have h548 : H545 p542 = some (.lst (([9, 300, 262144] : (List Int)).map V.int)) := h547
      have fr549 := S530.free n543
      have S550 := S530.new n543 e546 h548 fr549
      obtain ⟨g551, hw⟩ := cW_grd hw
      refine ⟨_, rfl, _, _, rfl, rfl, (divW_lit (by decide) (by decide)), _, _, rfl, rfl, (show (0 : Int) < 3 by decide), _, _, _, _, rfl, rfl, (SqL.of h548), (atI_map g551), ?_⟩
      have hw := cW_bnd hw
      obtain ⟨g553, hw⟩ := cW_grd hw
      refine ⟨_, rfl, _, rfl, _, _, rfl, rfl, (.inl ⟨by decide, by decide⟩), _, _, rfl, rfl, _, rfl, _, rfl, _, _, rfl, rfl, g553, rfl, rfl, G531, _, _, _, rfl, S550.sG, cW_call hw (fun v554 hw p557 H555 n558 e556 h559 => ?_) (fun e he => (hE e he).elim)⟩
      have h560 : H555 p557 = some (.lst ((v554 : (List Int)).map V.int)) := h559
      have fr561 := S550.free n558
      have S562 := S550.new n558 e556 h560 fr561
      obtain ⟨g563, hw⟩ := cW_grd hw
      obtain ⟨K568, hK569, hw⟩ := cW_push hw
      refine ⟨_, rfl, _, rfl, g563.1, g563.2, fun D570 n571 => lc_range (lo := 0) (n := Int.toNat ((4 + (4 * ((v537 + x533) % 2))))) (fun i H' => ∃ (G' : Hp) (acc573 : (List (List Int))) (vs574 : List V), Same G531 G' ∧ Sep [] H H G' H' [D570, p557] ∧ H' p557 = some (.lst ((v554 : (List Int)).map V.int)) ∧ H' D570 = some (.lst vs574) ∧ RpAll G' vs574 ((acc573 : (List (List Int))).map (encL PyData.int)) ∧ Same H555 H' ∧ cW (mapA (List.drop i (rng (0) (Int.toNat ((4 + (4 * ((v537 + x533) % 2))))))) acc573 (fun x => noEr (F_law_c2 ((4 + (4 * ((v537 + x533) % 2)))) ((itD ([9, 300, 262144]) ((((v537 + x533) / 3) % 3)))) (v554) x))) K568 EE) ?_ ?_ ?_⟩
      · generalize g575 : upd H555 D570 _ = H576
        obtain ⟨e577, h578⟩ := gen_new n571 g575
        have fr579 := S562.free n571
        have S580 := S562.new n571 e577 h578 fr579
        have h581 := (e577 _ _ h560)
        exact ⟨_, [], [], Same.refl _, (S580.sub (all_cons (.head _) (all_cons (.tail _ (.head _)) all_nil))), h581, h578, RpAll.nil, e577, hw⟩
      · intro i H582 hi hw
        obtain ⟨G585, acc587, vs588, eG586, S583, h594, h584, d589, eo593, hw⟩ := hw
        obtain ⟨z595, hw⟩ := cW_mapA (rng_get hi) hw
        generalize (0 + (i : Int)) = x596 at hw ⊢
        have hw := cW_noEr hw
        have hw : cW (F_law_c2 ((4 + (4 * ((v537 + x533) % 2)))) ((itD ([9, 300, 262144]) ((((v537 + x533) / 3) % 3)))) (v554) (x596)) _ (fun _ => False) := hw
        unfold F_law_c2 at hw
        refine ⟨rfl, ?_⟩
        refine tyes_go ?_
        obtain ⟨g598, hw⟩ := cW_grd hw
        obtain ⟨K604, hK605, hw⟩ := cW_push hw
        refine ⟨_, rfl, _, rfl, g598.1, g598.2, fun D606 n607 => lc_range (lo := 0) (n := Int.toNat ((4 + (4 * ((v537 + x533) % 2))))) (fun i2 H' => ∃ (G' : Hp) (acc609 : (List Int)), Same G585 G' ∧ Sep [] H H G' H' [D606, p557, D570] ∧ H' p557 = some (.lst ((v554 : (List Int)).map V.int)) ∧ H' D570 = some (.lst (vs588)) ∧ H' D606 = some (.lst ((acc609 : (List Int)).map V.int)) ∧ Same H582 H' ∧ cW (mapA (List.drop i2 (rng (0) (Int.toNat ((4 + (4 * ((v537 + x533) % 2))))))) acc609 (fun x => noEr (F_law_c3 ((4 + (4 * ((v537 + x533) % 2)))) ((itD ([9, 300, 262144]) ((((v537 + x533) / 3) % 3)))) (v554) (x596) x))) K604 (fun _ => False)) ?_ ?_ ?_⟩
        · generalize g611 : upd H582 D606 _ = H612
          obtain ⟨e613, h614⟩ := gen_new n607 g611
          have fr615 := S583.free n607
          have S616 := S583.new n607 e613 h614 fr615
          have h617 := (e613 _ _ h594)
          have h618 := (e613 _ _ h584)
          exact ⟨_, [], Same.refl _, (S616.sub (all_cons (.head _) (all_cons (.tail _ (.tail _ (.head _))) (all_cons (.tail _ (.head _)) all_nil)))), h617, h618, h614, e613, hw⟩
        · intro i2 H619 hi hw
          obtain ⟨G622, acc624, eG623, S620, h631, h632, h621, eo630, hw⟩ := hw
          obtain ⟨z633, hw⟩ := cW_mapA (rng_get hi) hw
          generalize (0 + (i2 : Int)) = x634 at hw ⊢
          have hw := cW_noEr hw
          have hw : cW (F_law_c3 ((4 + (4 * ((v537 + x533) % 2)))) ((itD ([9, 300, 262144]) ((((v537 + x533) / 3) % 3)))) (v554) (x596) (x634)) _ (fun _ => False) := hw
          unfold F_law_c3 at hw
          refine ⟨rfl, ?_⟩
          refine tyes_go ?_
          obtain ⟨g636, hw⟩ := cW_grd hw
          obtain ⟨g637, hw⟩ := cW_grd hw
          refine ⟨_, rfl, _, rfl, _, rfl, _, _, rfl, rfl, g636, _, rfl, _, _, rfl, rfl, _, _, _, _, rfl, rfl, (SqL.of h631), (atI_map g637), _, rfl, _, _, rfl, rfl, _, h621, (app_lenM z633), ?_⟩
          generalize g638 : upd H619 D606 _ = H639
          obtain ⟨x640, h641⟩ := gen_mut g638
          have S642 := S620.mut1 x640 (.head _) h641
          have hw := cW_ok hw
          have h643 := (x640 _ _ h631 (ne_of_none h594 n607))
          have h644 := (x640 _ _ h632 (ne_of_none h584 n607))
          exact ⟨_, (acc624 ++ [((itD (v554) (((x596 * (4 + (4 * ((v537 + x533) % 2)))) + x634))) - (itD ([9, 300, 262144]) ((((v537 + x533) / 3) % 3))))]), eG623, S642, h643, h644, (snoc_map h641), (same_mut eo630 x640 n607), hw⟩
        intro H645 hw
        obtain ⟨G648, acc650, eG649, S646, h657, h658, h647, eo656, hw⟩ := hw
        have hw := hK605 _ (cW_mapA0 (rng_len _ _).symm hw)
        have fr659 := S583.free n607
        obtain ⟨G660, eG661, hg662, S663⟩ := Sep.freeze (O' := [p557, D570]) S646 (.head _) h647 fr659 ((all_cons ⟨(.tail _ (.head _)), (ne_of_none h594 n607)⟩ (all_cons ⟨(.tail _ (.tail _ (.head _))), (ne_of_none h584 n607)⟩ all_nil)))
        refine ⟨_, h658, (app_len (RpAll.mono eG661 (RpAll.mono eG649 d589)) z595), ?_⟩
        generalize g664 : upd H645 D570 _ = H665
        obtain ⟨x666, h667⟩ := gen_mut g664
        have S668 := S663.mut1 x666 (.tail _ (.head _)) h667
        have hw := cW_ok hw
        have h669 := (x666 _ _ h657 (ne_of_none h560 n571))
        exact ⟨_, (acc587 ++ [acc650]), _, (Same.trans (Same.trans eG586 eG649) eG661), (S668.sub (all_cons (.tail _ (.head _)) (all_cons (.head _) all_nil))), h669, h667, (app_map (RpAll.mono eG661 (RpAll.mono eG649 d589)) (RpAll.one (rp_mk_ints hg662))), (same_mut (Same.trans eo593 eo656) x666 n571), hw⟩
      intro H670 hw
      obtain ⟨G673, acc675, vs676, eG674, S671, h682, h672, d677, eo681, hw⟩ := hw
      have hw := hK569 _ (cW_mapA0 (rng_len _ _).symm hw)
      have fr683 := S562.free n571
      obtain ⟨g684, hw⟩ := cW_grd hw
      obtain ⟨g685, hw⟩ := cW_grd hw
      refine ⟨_, rfl, _, ((encL (encL PyData.int)) (acc675)), rfl, (rp_mk_list h672 (RpAll.mono S671.sG d677)), g684, _, rfl, _, _, rfl, rfl, _, rfl, _, rfl, _, _, rfl, rfl, g685, _, _, rfl, rfl, (divW_lit (by decide) (by decide)), _, _, rfl, rfl, ?_⟩
      have hw := cW_bnd hw
      refine ⟨_, rfl, _, rfl, _, rfl, rfl, rfl, G673, _, _, _, _, rfl, S671.sG, (Rp.hide_nil (rp_mk_list h672 (RpAll.mono S671.sG d677))), cW_call hw (fun v687 hw H688 a690 vs691 L692 G693 n694 nb695 nd696 e689 eG697 sG698 hn699 ga700 gL701 h702 w703 => ?_) (fun e he => (hE e he).elim)⟩
      have fr704 := S671.free n694
      have S705 : Sep _ _ _ _ H688 (a690 :: (L692 ++ (D570 :: (p557 :: [])))) := Sep.steptree S671 e689 eG697 sG698 hn699 (a690 :: L692) (all_cons ⟨n694, ga700, some_ne h702⟩ (fun b hb => ⟨nb695 b hb, gL701 b hb, OwAll.there w703 b hb⟩))
      have h706 := (e689 _ _ h672)
      refine ⟨_, rfl, _, rfl, rfl, rfl, G693, _, _, _, _, rfl, S705.sG, (Rp.hide_nil (rp_mk_list h706 (RpAll.mono S705.sG (RpAll.mono eG697 d677)))), cW_call hw (fun v707 hw H708 a710 vs711 L712 G713 n714 nb715 nd716 e709 eG717 sG718 hn719 ga720 gL721 h722 w723 => ?_) (fun e he => (hE e he).elim)⟩
      have fr724 := S705.free n714
      have S725 : Sep _ _ _ _ H708 (a710 :: (L712 ++ (a690 :: (L692 ++ (D570 :: (p557 :: [])))))) := Sep.steptree S705 e709 eG717 sG718 hn719 (a710 :: L712) (all_cons ⟨n714, ga720, some_ne h722⟩ (fun b hb => ⟨nb715 b hb, gL721 b hb, OwAll.there w723 b hb⟩))
      have h726 := (e709 _ _ h702)
      have w727 : OwAll G713 H708 L692 (vs691) ((v687 : (List (List Int))).map (oL oI)) := (OwAll.mono eG717 keeps_refl (OwAll.mono (Same.refl _) (keeps_same e709) w703))
      refine ⟨_, rfl, _, rfl, rfl, rfl, G713, _, _, _, rfl, S725.sG, (Rp.hide_nil (rp_mk_list h726 (OwAll.rpA w727 (encO_L encO_I) S725.sG))), cW_call hw (fun v728 hw H729 e730 => ?_) (fun e he => (hE e he).elim)⟩
      have S731 := S725.same e730
      refine ⟨_, rfl, ?_⟩
      refine iteBN (fun c732 => ?_) (fun c732 => ?_)
      · have hw := cW_negB c732 hw
        refine iteT ?_
        have hw := cW_ok hw
        have hw := hK535 (.rt _) hw
        have hw := hK511 (.rt _) hw
        have hw := cW_ok hw
        exact eq_bl (k _) (hK0 _ hw).symm
      · have hw := cW_pos c732 hw
        have h733 := (e730 _ _ h722)
        have w734 : OwAll G713 H729 L712 (vs711) ((v707 : (List (List Int))).map (oL oI)) := (OwAll.mono (Same.refl _) (keeps_same e730) w723)
        refine ⟨_, rfl, _, rfl, rfl, rfl, G713, _, _, _, rfl, S731.sG, (Rp.hide_nil (rp_mk_list h733 (OwAll.rpA w734 (encO_L encO_I) S731.sG))), cW_call hw (fun v735 hw H736 e737 => ?_) (fun e he => (hE e he).elim)⟩
        have S738 := S731.same e737
        refine ⟨_, rfl, ?_⟩
        refine iteBN (fun c739 => ?_) (fun c739 => ?_)
        · have hw := cW_negB c739 hw
          refine iteT ?_
          have hw := cW_ok hw
          have hw := hK535 (.rt _) hw
          have hw := hK511 (.rt _) hw
          have hw := cW_ok hw
          exact eq_bl (k _) (hK0 _ hw).symm
        · have hw := cW_pos c739 hw
          obtain ⟨g740, hw⟩ := cW_grd hw
          have h741 := (e737 _ _ (e730 _ _ (e709 _ _ h706)))
          refine ⟨_, rfl, _, ((encL (encL PyData.int)) (acc675)), rfl, (rp_mk_list h741 (RpAll.mono S738.sG (RpAll.mono eG717 (RpAll.mono eG697 d677)))), g740, _, rfl, rfl, _, rfl, ?_⟩
          refine iteN (fun c742 => ?_) (fun c742 => ?_)
          · have hw := cW_neg c742 hw
            have hw := cW_ok hw
            have hw := hK535 (.rt _) hw
            have hw := hK511 (.rt _) hw
            have hw := cW_ok hw
            exact eq_bl (k _) (hK0 _ hw).symm
          · have hw := cW_pos c742 hw
            obtain ⟨g743, hw⟩ := cW_grd hw
            have h744 := (e737 _ _ (e730 _ _ h726))
            have w745 : OwAll G713 H736 L692 (vs691) ((v687 : (List (List Int))).map (oL oI)) := (OwAll.mono (Same.refl _) (keeps_same e737) (OwAll.mono (Same.refl _) (keeps_same e730) w727))
            refine ⟨_, rfl, _, ((encL (encL PyData.int)) (v687)), rfl, (rp_mk_list h744 (OwAll.rpA w745 (encO_L encO_I) S738.sG)), g743, _, rfl, _, rfl, rfl, rfl, G713, _, _, _, rfl, S738.sG, (Rp.hide_nil (rp_mk_list h744 (OwAll.rpA w745 (encO_L encO_I) S738.sG))), cW_call hw (fun v746 hw H747 a749 vs750 L751 G752 n753 nb754 nd755 e748 eG756 sG757 hn758 ga759 gL760 h761 w762 => ?_) (fun e he => (hE e he).elim)⟩
            have fr763 := S738.free n753
            have S764 : Sep _ _ _ _ H747 (a749 :: (L751 ++ (a710 :: (L712 ++ (a690 :: (L692 ++ (D570 :: (p557 :: [])))))))) := Sep.steptree S738 e748 eG756 sG757 hn758 (a749 :: L751) (all_cons ⟨n753, ga759, some_ne h761⟩ (fun b hb => ⟨nb754 b hb, gL760 b hb, OwAll.there w762 b hb⟩))
            refine ⟨_, rfl, _, rfl, rfl, rfl, G752, _, _, _, rfl, S764.sG, (Rp.hide_nil (rp_mk_list h761 (OwAll.rpA w762 (encO_L encO_I) S764.sG))), cW_call hw (fun v765 hw H766 e767 => ?_) (fun e he => (hE e he).elim)⟩
            have S768 := S764.same e767
            refine ⟨_, rfl, ?_⟩
            refine iteBN (fun c769 => ?_) (fun c769 => ?_)
            · have hw := cW_negB c769 hw
              refine iteT ?_
              have hw := cW_ok hw
              have hw := hK535 (.rt _) hw
              have hw := hK511 (.rt _) hw
              have hw := cW_ok hw
              exact eq_bl (k _) (hK0 _ hw).symm
            · have hw := cW_pos c769 hw
              obtain ⟨g770, hw⟩ := cW_grd hw
              have h771 := (e767 _ _ (e748 _ _ h744))
              have w772 : OwAll G752 H766 L692 (vs691) ((v687 : (List (List Int))).map (oL oI)) := (OwAll.mono eG756 keeps_refl (OwAll.mono (Same.refl _) (keeps_same e767) (OwAll.mono (Same.refl _) (keeps_same e748) w745)))
              refine ⟨_, rfl, _, ((encL (encL PyData.int)) (v687)), rfl, (rp_mk_list h771 (OwAll.rpA w772 (encO_L encO_I) S768.sG)), g770, _, rfl, rfl, _, rfl, ?_⟩
              refine iteN (fun c773 => ?_) (fun c773 => ?_)
              · have hw := cW_neg c773 hw
                have hw := cW_ok hw
                have hw := hK535 (.rt _) hw
                have hw := hK511 (.rt _) hw
                have hw := cW_ok hw
                exact eq_bl (k _) (hK0 _ hw).symm
              · have hw := cW_pos c773 hw
                obtain ⟨g774, hw⟩ := cW_grd hw
                obtain ⟨K792, hK793, hw⟩ := cW_push hw
                refine ⟨_, rfl, _, rfl, g774.1, g774.2, for_range (lo := 0) (n := Int.toNat ((4 + (4 * ((v537 + x533) % 2))))) (fun i σ H' => ∃ (u794 : Option V) (u795 : Option V) (u796 : Option V) (G' : Hp), σ = [some (V.ref a_script), some (V.int (x533)), some (V.int ((v537 + x533))), some (V.int ((4 + (4 * ((v537 + x533) % 2))))), some (V.int ((((v537 + x533) / 2) % 32))), some (V.int ((((v537 + x533) / 64) % 9))), some (V.int ((itD ([9, 300, 262144]) ((((v537 + x533) / 3) % 3))))), some (V.ref p557), some (V.ref D570), some (V.str ((PyData.shown ((encL (encL PyData.int)) (acc675))))), some (V.int (((1 + (((v537 + x533) / 2) % 32)) + (((((v537 + x533) / 2) % 32) * (((v537 + x533) / 2) % 32)) / 4)))), some (V.ref a690), some (V.ref a710), some (V.str ((PyData.shown ((encL (encL PyData.int)) (v687))))), some (V.ref a749), u794, u795, u796] ∧ Same G752 G' ∧ Sep [] H H G' H' (p557 :: (D570 :: (a690 :: (a710 :: (a749 :: (L692 ++ (L712 ++ (L751 ++ [])))))))) ∧ H' p557 = some (.lst ((v554 : (List Int)).map V.int)) ∧ H' D570 = some (.lst (vs676)) ∧ H' a690 = some (.lst (vs691)) ∧ H' a710 = some (.lst (vs711)) ∧ H' a749 = some (.lst (vs750)) ∧ OwAll G' H' L692 (vs691) ((v687 : (List (List Int))).map (oL oI)) ∧ OwAll G' H' L712 (vs711) ((v707 : (List (List Int))).map (oL oI)) ∧ OwAll G' H' L751 (vs750) ((v746 : (List (List Int))).map (oL oI)) ∧ cW (forR (List.drop i (rng (0) (Int.toNat ((4 + (4 * ((v537 + x533) % 2))))))) () (fun s x => F_law_b4 ((4 + (4 * ((v537 + x533) % 2)))) ((((v537 + x533) / 64) % 9)) (acc675) (((1 + (((v537 + x533) / 2) % 32)) + (((((v537 + x533) / 2) % 32) * (((v537 + x533) / 2) % 32)) / 4))) (v687) (v707) (v746)  x)) K792 EE) ?_ ?_ ?_⟩
                · have h797 := (e767 _ _ (e748 _ _ (e737 _ _ (e730 _ _ (e709 _ _ (e689 _ _ h682))))))
                  have h798 := (e767 _ _ (e748 _ _ h741))
                  have h799 := (e767 _ _ (e748 _ _ (e737 _ _ h733)))
                  have h800 := (e767 _ _ h761)
                  have w801 : OwAll G752 H766 L712 (vs711) ((v707 : (List (List Int))).map (oL oI)) := (OwAll.mono eG756 keeps_refl (OwAll.mono (Same.refl _) (keeps_same e767) (OwAll.mono (Same.refl _) (keeps_same e748) (OwAll.mono (Same.refl _) (keeps_same e737) w734))))
                  have w802 : OwAll G752 H766 L751 (vs750) ((v746 : (List (List Int))).map (oL oI)) := (OwAll.mono (Same.refl _) (keeps_same e767) w762)
                  exact ⟨_, _, _, _, rfl, (Same.refl _), (S768.sub (all_cons (.tail _ (List.mem_append_right _ (.tail _ (List.mem_append_right _ (.tail _ (List.mem_append_right _ (.tail _ (.head _)))))))) (all_cons (.tail _ (List.mem_append_right _ (.tail _ (List.mem_append_right _ (.tail _ (List.mem_append_right _ (.head _))))))) (all_cons (.tail _ (List.mem_append_right _ (.tail _ (List.mem_append_right _ (.head _))))) (all_cons (.tail _ (List.mem_append_right _ (.head _))) (all_cons (.head _) (all_app ((fun b hb => (.tail _ (List.mem_append_right _ (.tail _ (List.mem_append_right _ (.tail _ (List.mem_append_left _ hb))))))) : ∀ b ∈ L692, b ∈ (a749 :: (L751 ++ (a710 :: (L712 ++ (a690 :: (L692 ++ (D570 :: (p557 :: []))))))))) (all_app ((fun b hb => (.tail _ (List.mem_append_right _ (.tail _ (List.mem_append_left _ hb))))) : ∀ b ∈ L712, b ∈ (a749 :: (L751 ++ (a710 :: (L712 ++ (a690 :: (L692 ++ (D570 :: (p557 :: []))))))))) (all_app ((fun b hb => (.tail _ (List.mem_append_left _ hb))) : ∀ b ∈ L751, b ∈ (a749 :: (L751 ++ (a710 :: (L712 ++ (a690 :: (L692 ++ (D570 :: (p557 :: []))))))))) all_nil))))))))), h797, h798, h771, h799, h800, w772, w801, w802, hw⟩
                · intro i σ H803 hi hw
                  obtain ⟨u794, u795, u796, G813, rfl, eG814, S804, h805, h806, h807, h808, h809, w810, w811, w812, hw⟩ := hw
                  have hw := cW_forR (rng_get hi) hw
                  generalize (0 + (i : Int)) = x815 at hw ⊢
                  have hw : cW (F_law_b4 ((4 + (4 * ((v537 + x533) % 2)))) ((((v537 + x533) / 64) % 9)) (acc675) (((1 + (((v537 + x533) / 2) % 32)) + (((((v537 + x533) / 2) % 32) * (((v537 + x533) / 2) % 32)) / 4))) (v687) (v707) (v746)  (x815)) _ EE := hw
                  unfold F_law_b4 at hw
                  obtain ⟨K816, hK817, hw⟩ := cW_name hw
                  obtain ⟨g819, hw⟩ := cW_grd hw
                  obtain ⟨K827, hK828, hw⟩ := cW_push hw
                  refine ⟨_, rfl, _, rfl, g819.1, g819.2, for_range (lo := 0) (n := Int.toNat ((4 + (4 * ((v537 + x533) % 2))))) (fun i σ H' => ∃ (u829 : Option V) (u830 : Option V) (G' : Hp), σ = [some (V.ref a_script), some (V.int (x533)), some (V.int ((v537 + x533))), some (V.int ((4 + (4 * ((v537 + x533) % 2))))), some (V.int ((((v537 + x533) / 2) % 32))), some (V.int ((((v537 + x533) / 64) % 9))), some (V.int ((itD ([9, 300, 262144]) ((((v537 + x533) / 3) % 3))))), some (V.ref p557), some (V.ref D570), some (V.str ((PyData.shown ((encL (encL PyData.int)) (acc675))))), some (V.int (((1 + (((v537 + x533) / 2) % 32)) + (((((v537 + x533) / 2) % 32) * (((v537 + x533) / 2) % 32)) / 4)))), some (V.ref a690), some (V.ref a710), some (V.str ((PyData.shown ((encL (encL PyData.int)) (v687))))), some (V.ref a749), some (V.int (x815)), u829, u830] ∧ Same G813 G' ∧ Sep [] H H G' H' (p557 :: (D570 :: (a690 :: (a710 :: (a749 :: (L692 ++ (L712 ++ (L751 ++ [])))))))) ∧ H' p557 = some (.lst ((v554 : (List Int)).map V.int)) ∧ H' D570 = some (.lst (vs676)) ∧ H' a690 = some (.lst (vs691)) ∧ H' a710 = some (.lst (vs711)) ∧ H' a749 = some (.lst (vs750)) ∧ OwAll G' H' L692 (vs691) ((v687 : (List (List Int))).map (oL oI)) ∧ OwAll G' H' L712 (vs711) ((v707 : (List (List Int))).map (oL oI)) ∧ OwAll G' H' L751 (vs750) ((v746 : (List (List Int))).map (oL oI)) ∧ cW (forR (List.drop i (rng (0) (Int.toNat ((4 + (4 * ((v537 + x533) % 2))))))) () (fun s x => F_law_b5 ((((v537 + x533) / 64) % 9)) (acc675) (((1 + (((v537 + x533) / 2) % 32)) + (((((v537 + x533) / 2) % 32) * (((v537 + x533) / 2) % 32)) / 4))) (v687) (v707) (v746) (x815)  x)) K827 EE) ?_ ?_ ?_⟩
                  · exact ⟨_, _, _, rfl, (Same.refl _), S804, h805, h806, h807, h808, h809, w810, w811, w812, hw⟩
                  · intro i σ H831 hi hw
                    obtain ⟨u829, u830, G841, rfl, eG842, S832, h833, h834, h835, h836, h837, w838, w839, w840, hw⟩ := hw
                    have hw := cW_forR (rng_get hi) hw
                    generalize (0 + (i : Int)) = x843 at hw ⊢
                    have hw : cW (F_law_b5 ((((v537 + x533) / 64) % 9)) (acc675) (((1 + (((v537 + x533) / 2) % 32)) + (((((v537 + x533) / 2) % 32) * (((v537 + x533) / 2) % 32)) / 4))) (v687) (v707) (v746) (x815)  (x843)) _ EE := hw
                    unfold F_law_b5 at hw
                    obtain ⟨K844, hK845, hw⟩ := cW_name hw
                    obtain ⟨g847, hw⟩ := cW_grd hw
                    obtain ⟨v848, a849, r850⟩ := RpAll.ixD (k := x815) (RpAll.mono eG842 (RpAll.mono eG814 (RpAll.mono eG756 (RpAll.mono eG717 (RpAll.mono eG697 d677))))) g847
                    obtain ⟨a851, rfl, h852⟩ := rp_ints r850
                    obtain ⟨g853, hw⟩ := cW_grd hw
                    refine ⟨_, rfl, _, rfl, _, _, _, _, rfl, rfl, (SqL.of h834), a849, _, rfl, _, _, _, _, rfl, rfl, (SqL.of (S832.sG _ _ h852)), (atI_map g853), _, rfl, _, rfl, rfl, rfl, G841, _, _, _, rfl, S832.sG, cW_call hw (fun v854 hw => ?_) (fun e he => (hE e he).elim)⟩
                    obtain ⟨g855, hw⟩ := cW_grd hw
                    obtain ⟨v856, L857, a858, w859, hs860, up861⟩ := OwAll.partM (k := x815) w838 g855
                    obtain ⟨b862, rfl, rfl, h863⟩ := Ow.toInts w859
                    obtain ⟨g864, hw⟩ := cW_grd hw
                    refine ⟨_, rfl, _, rfl, _, _, _, _, rfl, rfl, (SqL.of h835), a858, _, rfl, _, _, _, _, rfl, rfl, (SqL.of h863), (atI_map g864), _, rfl, _, _, rfl, rfl, _, rfl, ?_⟩
                    refine iteN (fun c865 => ?_) (fun c865 => ?_)
                    · have hw := cW_neg c865 hw
                      refine iteT ?_
                      have hw := cW_ok hw
                      have hw := hK845 (.rt _) hw
                      have hw := hK828 (.rt _) hw
                      have hw := cW_ok hw
                      have hw := hK817 (.rt _) hw
                      have hw := hK793 (.rt _) hw
                      have hw := cW_ok hw
                      have hw := hK535 (.rt _) hw
                      have hw := hK511 (.rt _) hw
                      have hw := cW_ok hw
                      exact eq_bl (k _) (hK0 _ hw).symm
                    · have hw := cW_pos c865 hw
                      obtain ⟨g866, hw⟩ := cW_grd hw
                      obtain ⟨v867, L868, a869, w870, hs871, up872⟩ := OwAll.partM (k := x815) w839 g866
                      obtain ⟨b873, rfl, rfl, h874⟩ := Ow.toInts w870
                      obtain ⟨g875, hw⟩ := cW_grd hw
                      obtain ⟨g876, hw⟩ := cW_grd hw
                      obtain ⟨v877, a878, r879⟩ := RpAll.ixD (k := x815) (RpAll.mono eG842 (RpAll.mono eG814 (RpAll.mono eG756 (RpAll.mono eG717 (RpAll.mono eG697 d677))))) g876
                      obtain ⟨a880, rfl, h881⟩ := rp_ints r879
                      obtain ⟨g882, hw⟩ := cW_grd hw
                      refine ⟨_, rfl, _, rfl, _, _, _, _, rfl, rfl, (SqL.of h836), a869, _, rfl, _, _, _, _, rfl, rfl, (SqL.of h874), (atI_map g875), _, rfl, _, rfl, _, _, _, _, rfl, rfl, (SqL.of h834), a878, _, rfl, _, _, _, _, rfl, rfl, (SqL.of (S832.sG _ _ h881)), (atI_map g882), _, rfl, rfl, rfl, G841, _, _, _, rfl, S832.sG, cW_call hw (fun v883 hw => ?_) (fun e he => (hE e he).elim)⟩
                      refine ⟨_, _, rfl, rfl, _, rfl, ?_⟩
                      refine iteN (fun c884 => ?_) (fun c884 => ?_)
                      · have hw := cW_neg c884 hw
                        have hw := cW_ok hw
                        have hw := hK845 (.rt _) hw
                        have hw := hK828 (.rt _) hw
                        have hw := cW_ok hw
                        have hw := hK817 (.rt _) hw
                        have hw := hK793 (.rt _) hw
                        have hw := cW_ok hw
                        have hw := hK535 (.rt _) hw
                        have hw := hK511 (.rt _) hw
                        have hw := cW_ok hw
                        exact eq_bl (k _) (hK0 _ hw).symm
                      · have hw := cW_pos c884 hw
                        obtain ⟨g885, hw⟩ := cW_grd hw
                        obtain ⟨v886, L887, a888, w889, hs890, up891⟩ := OwAll.partM (k := x815) w840 g885
                        obtain ⟨b892, rfl, rfl, h893⟩ := Ow.toInts w889
                        obtain ⟨g894, hw⟩ := cW_grd hw
                        obtain ⟨g895, hw⟩ := cW_grd hw
                        refine ⟨_, rfl, _, rfl, _, _, _, _, rfl, rfl, (SqL.of h837), a888, _, rfl, _, _, _, _, rfl, rfl, (SqL.of h893), (atI_map g894), _, rfl, _, rfl, _, _, rfl, rfl, g895, _, _, rfl, rfl, _, rfl, ?_⟩
                        refine iteN (fun c896 => ?_) (fun c896 => ?_)
                        · have hw := cW_neg c896 hw
                          have hw := cW_ok hw
                          have hw := hK845 (.rt _) hw
                          have hw := hK828 (.rt _) hw
                          have hw := cW_ok hw
                          have hw := hK817 (.rt _) hw
                          have hw := hK793 (.rt _) hw
                          have hw := cW_ok hw
                          have hw := hK535 (.rt _) hw
                          have hw := hK511 (.rt _) hw
                          have hw := cW_ok hw
                          exact eq_bl (k _) (hK0 _ hw).symm
                        · have hw := cW_pos c896 hw
                          have hw := cW_ok hw
                          have hw := hK845 _ hw
                          exact ⟨_, _, _, rfl, eG842, S832, h833, h834, h835, h836, h837, w838, w839, w840, hw⟩
                  · intro σ H897 hw
                    obtain ⟨u829, u830, G907, rfl, eG908, S898, h899, h900, h901, h902, h903, w904, w905, w906, hw⟩ := hw
                    have hw := hK828 _ (cW_forR0 (rng_len _ _).symm hw)
                    have hw : cW (F_law_r5  ) _ EE := hw
                    unfold F_law_r5 at hw
                    have hw := cW_ok hw
                    have hw := hK817 _ hw
                    exact ⟨_, _, _, _, rfl, (Same.trans eG814 eG908), S898, h899, h900, h901, h902, h903, w904, w905, w906, hw⟩
                · intro σ H909 hw
                  obtain ⟨u794, u795, u796, G919, rfl, eG920, S910, h911, h912, h913, h914, h915, w916, w917, w918, hw⟩ := hw
                  have hw := hK793 _ (cW_forR0 (rng_len _ _).symm hw)
                  have hw : cW (F_law_r4 ((v537 + x533)) ((4 + (4 * ((v537 + x533) % 2)))) ((((v537 + x533) / 2) % 32)) ((((v537 + x533) / 64) % 9)) (acc675) ((PyData.shown ((encL (encL PyData.int)) (acc675)))) (v687) (v707) ((PyData.shown ((encL (encL PyData.int)) (v687)))) (v746) ) _ EE := hw
                  unfold F_law_r4 at hw
                  refine ⟨_, rfl, _, rfl, (by show 2 ≤ sizeLine; decide), fun p921 n922 => ?_⟩
                  generalize g923 : upd H909 p921 _ = H924
                  obtain ⟨e925, h926⟩ := gen_new n922 g923
                  have h927 : H924 p921 = some (.lst [V.ref a749, V.ref a710]) := h926
                  have fr928 := S910.free n922
                  have S929 := S910.new n922 e925 h927 fr928
                  have h930 := (e925 _ _ h914)
                  have w931 : OwAll G919 H924 L712 (vs711) ((v707 : (List (List Int))).map (oL oI)) := (OwAll.mono (Same.refl _) (keeps_same e925) w917)
                  have h932 := (e925 _ _ h915)
                  have w933 : OwAll G919 H924 L751 (vs750) ((v746 : (List (List Int))).map (oL oI)) := (OwAll.mono (Same.refl _) (keeps_same e925) w918)
                  obtain ⟨g934, hw⟩ := cW_grd hw
                  obtain ⟨g935, hw⟩ := cW_grd hw
                  obtain ⟨g936, hw⟩ := cW_grd hw
                  have w937 : OwAll G919 H924 L692 (vs691) ((v687 : (List (List Int))).map (oL oI)) := (OwAll.mono (Same.refl _) (keeps_same e925) w916)
                  obtain ⟨v938, L939, a940, w941, hs942, up943⟩ := OwAll.partM (k := ((v537 + x533) % (4 + (4 * ((v537 + x533) % 2))))) w937 g936
                  have h944 := (e925 _ _ h913)
                  obtain ⟨b945, rfl, rfl, h946⟩ := Ow.toInts w941
                  obtain ⟨g947, hw⟩ := cW_grd hw
                  obtain ⟨g948, hw⟩ := cW_grd hw
                  obtain ⟨g949, hw⟩ := cW_grd hw
                  obtain ⟨v950, L951, a952, w953, hs954, up955⟩ := OwAll.partM (k := ((v537 + x533) % (4 + (4 * ((v537 + x533) % 2))))) w937 g949
                  obtain ⟨b956, rfl, rfl, h957⟩ := Ow.toInts w953
                  obtain ⟨g958, hw⟩ := cW_grd hw
                  refine ⟨_, ((encL (encL (encL PyData.int))) ([v746, v707])), rfl, (rp_mk_list h927 (RpAll.cons (rp_mk_list h932 (OwAll.rpA w933 (encO_L encO_I) S929.sG)) (RpAll.cons (rp_mk_list h930 (OwAll.rpA w931 (encO_L encO_I) S929.sG)) RpAll.nil))), g934, _, rfl, _, rfl, _, rfl, _, _, rfl, rfl, g935, _, _, _, _, rfl, rfl, (SqL.of h944), a940, _, _, _, _, rfl, rfl, (SqL.of h946), (atI_map g947), _, _, rfl, rfl, _, rfl, _, rfl, _, rfl, _, _, rfl, rfl, g948, _, _, _, _, rfl, rfl, (SqL.of h944), a952, _, _, _, _, rfl, rfl, h957, (ixN_map g958), ?_⟩
                  generalize g959 : upd H924 b956 _ = H960
                  obtain ⟨x961, h962⟩ := gen_mut g959
                  have h963 : H960 b956 = some (.lst ((setL ((itD (v687) (((v537 + x533) % (4 + (4 * ((v537 + x533) % 2))))))) (0) (((itD ((itD (v687) (((v537 + x533) % (4 + (4 * ((v537 + x533) % 2))))))) (0)) + 1)) : (List Int)).map V.int)) := set_map h962
                  have S964 := S929.mut1 x961 ((((fun b hb => (.tail _ (.tail _ (.tail _ (.tail _ (.tail _ (.tail _ (List.mem_append_left _ hb)))))))) : ∀ b ∈ L692, b ∈ (p921 :: (p557 :: (D570 :: (a690 :: (a710 :: (a749 :: (L692 ++ (L712 ++ (L751 ++ [])))))))))) : ∀ b ∈ L692, b ∈ (p921 :: (p557 :: (D570 :: (a690 :: (a710 :: (a749 :: (L692 ++ (L712 ++ (L751 ++ [])))))))))) _ (hs954 _ List.mem_cons_self)) h963
                  have w965 : OwAll G919 H960 L692 (vs691) ((setL (v687) (((v537 + x533) % (4 + (4 * ((v537 + x533) % 2))))) (setL ((itD (v687) (((v537 + x533) % (4 + (4 * ((v537 + x533) % 2))))))) (0) (((itD ((itD (v687) (((v537 + x533) % (4 + (4 * ((v537 + x533) % 2))))))) (0)) + 1))) : (List (List Int))).map (oL oI)) := upd_tree up955 x961 List.mem_cons_self (Ow.ints h963)
                  have hw := cW_bnd hw
                  obtain ⟨g967, hw⟩ := cW_grd hw
                  have h968 := (x961 _ _ (e925 _ _ h912) ((((new_ne2 nb695 (S671.ow _ (.head _)).2.1) : ∀ b ∈ L692, b ≠ D570) _ (hs954 _ List.mem_cons_self))).symm)
                  refine ⟨_, rfl, _, ((encL (encL PyData.int)) (acc675)), rfl, (rp_mk_list h968 (RpAll.mono S964.sG (RpAll.mono eG920 (RpAll.mono eG756 (RpAll.mono eG717 (RpAll.mono eG697 d677)))))), g967, _, rfl, rfl, _, rfl, ?_⟩
                  refine iteN (fun c969 => ?_) (fun c969 => ?_)
                  · have hw := cW_neg c969 hw
                    refine iteT ?_
                    have hw := cW_ok hw
                    have hw := hK535 (.rt _) hw
                    have hw := hK511 (.rt _) hw
                    have hw := cW_ok hw
                    exact eq_bl (k _) (hK0 _ hw).symm
                  · have hw := cW_pos c969 hw
                    refine ⟨_, rfl, _, rfl, (by show 2 ≤ sizeLine; decide), fun p970 n971 => ?_⟩
                    generalize g972 : upd H960 p970 _ = H973
                    obtain ⟨e974, h975⟩ := gen_new n971 g972
                    have h976 : H973 p970 = some (.lst [V.ref a749, V.ref a710]) := h975
                    have fr977 := S964.free n971
                    have S978 := S964.new n971 e974 h976 fr977
                    have h979 := (e974 _ _ (x961 _ _ h930 ((((there_ne (fun b_ hb_ => (S705.ow b_ (((fun b hb => (.tail _ (List.mem_append_left _ hb))) : ∀ b ∈ L692, b ∈ (a690 :: (L692 ++ (D570 :: (p557 :: []))))) b_ hb_)).2.1) n714) : ∀ b ∈ L692, b ≠ a710) _ (hs954 _ List.mem_cons_self))).symm))
                    have w980 : OwAll G919 H973 L712 (vs711) ((v707 : (List (List Int))).map (oL oI)) := (OwAll.mono (Same.refl _) (keeps_same e974) (OwAll.mono (Same.refl _) (keeps_mut x961 ((fun b hb z => (fun b hb => ((new_nl nb715 (fun b_ hb_ => (S705.ow b_ (((fun b hb => (.tail _ (List.mem_append_left _ hb))) : ∀ b ∈ L692, b ∈ (a690 :: (L692 ++ (D570 :: (p557 :: []))))) b_ hb_)).2.1)) b hb)) b hb (z ▸ (hs954 _ List.mem_cons_self))) : ∀ b ∈ L712, b ≠ b956)) w931))
                    have h981 := (e974 _ _ (x961 _ _ h932 ((((there_ne (fun b_ hb_ => (S738.ow b_ (((fun b hb => (.tail _ (List.mem_append_right _ (.tail _ (List.mem_append_left _ hb))))) : ∀ b ∈ L692, b ∈ (a710 :: (L712 ++ (a690 :: (L692 ++ (D570 :: (p557 :: []))))))) b_ hb_)).2.1) n753) : ∀ b ∈ L692, b ≠ a749) _ (hs954 _ List.mem_cons_self))).symm))
                    have w982 : OwAll G919 H973 L751 (vs750) ((v746 : (List (List Int))).map (oL oI)) := (OwAll.mono (Same.refl _) (keeps_same e974) (OwAll.mono (Same.refl _) (keeps_mut x961 ((fun b hb z => (fun b hb => ((new_nl nb754 (fun b_ hb_ => (S738.ow b_ (((fun b hb => (.tail _ (List.mem_append_right _ (.tail _ (List.mem_append_left _ hb))))) : ∀ b ∈ L692, b ∈ (a710 :: (L712 ++ (a690 :: (L692 ++ (D570 :: (p557 :: []))))))) b_ hb_)).2.1)) b hb)) b hb (z ▸ (hs954 _ List.mem_cons_self))) : ∀ b ∈ L751, b ≠ b956)) w933))
                    obtain ⟨g983, hw⟩ := cW_grd hw
                    refine ⟨_, ((encL (encL (encL PyData.int))) ([v746, v707])), rfl, (rp_mk_list h976 (RpAll.cons (rp_mk_list h981 (OwAll.rpA w982 (encO_L encO_I) S978.sG)) (RpAll.cons (rp_mk_list h979 (OwAll.rpA w980 (encO_L encO_I) S978.sG)) RpAll.nil))), g983, _, rfl, rfl, _, rfl, ?_⟩
                    refine iteN (fun c984 => ?_) (fun c984 => ?_)
                    · have hw := cW_neg c984 hw
                      have hw := cW_ok hw
                      have hw := hK535 (.rt _) hw
                      have hw := hK511 (.rt _) hw
                      have hw := cW_ok hw
                      exact eq_bl (k _) (hK0 _ hw).symm
                    · have hw := cW_pos c984 hw
                      obtain ⟨g985, hw⟩ := cW_grd hw
                      have h986 := (e974 _ _ (x961 _ _ h944 (((nd696 : ∀ b ∈ L692, b ≠ a690) _ (hs954 _ List.mem_cons_self))).symm))
                      have w987 : OwAll G919 H973 L692 (vs691) ((setL (v687) (((v537 + x533) % (4 + (4 * ((v537 + x533) % 2))))) (setL ((itD (v687) (((v537 + x533) % (4 + (4 * ((v537 + x533) % 2))))))) (0) (((itD ((itD (v687) (((v537 + x533) % (4 + (4 * ((v537 + x533) % 2))))))) (0)) + 1))) : (List (List Int))).map (oL oI)) := (OwAll.mono (Same.refl _) (keeps_same e974) w965)
                      obtain ⟨g988, hw⟩ := cW_grd hw
                      obtain ⟨v989, L990, a991, w992, hs993, up994⟩ := OwAll.partM (k := 0) w982 g988
                      obtain ⟨b995, rfl, rfl, h996⟩ := Ow.toInts w992
                      obtain ⟨g997, hw⟩ := cW_grd hw
                      obtain ⟨g998, hw⟩ := cW_grd hw
                      obtain ⟨g999, hw⟩ := cW_grd hw
                      obtain ⟨v1000, L1001, a1002, w1003, hs1004, up1005⟩ := OwAll.partM (k := 0) w982 g999
                      obtain ⟨b1006, rfl, rfl, h1007⟩ := Ow.toInts w1003
                      obtain ⟨g1008, hw⟩ := cW_grd hw
                      obtain ⟨g1009, hw⟩ := cW_grd hw
                      refine ⟨_, rfl, _, ((encL (encL PyData.int)) (setL (v687) (((v537 + x533) % (4 + (4 * ((v537 + x533) % 2))))) (setL ((itD (v687) (((v537 + x533) % (4 + (4 * ((v537 + x533) % 2))))))) (0) (((itD ((itD (v687) (((v537 + x533) % (4 + (4 * ((v537 + x533) % 2))))))) (0)) + 1))))), rfl, (rp_mk_list h986 (OwAll.rpA w987 (encO_L encO_I) S978.sG)), g985, _, rfl, _, _, _, _, rfl, rfl, (SqL.of h981), a991, _, rfl, _, rfl, _, _, rfl, rfl, g997, _, _, _, _, rfl, rfl, (SqL.of h996), (atI_map g998), _, _, rfl, rfl, _, rfl, _, _, _, _, rfl, rfl, (SqL.of h981), a1002, _, rfl, _, rfl, _, _, rfl, rfl, g1008, _, _, _, _, rfl, rfl, h1007, (ixN_map g1009), ?_⟩
                      generalize g1010 : upd H973 b1006 _ = H1011
                      obtain ⟨x1012, h1013⟩ := gen_mut g1010
                      have h1014 : H1011 b1006 = some (.lst ((setL ((itD (v746) (0))) (((v537 + x533) % (4 + (4 * ((v537 + x533) % 2))))) (((itD ((itD (v746) (0))) (((v537 + x533) % (4 + (4 * ((v537 + x533) % 2)))))) + 1)) : (List Int)).map V.int)) := set_map h1013
                      have S1015 := S978.mut1 x1012 ((((fun b hb => (.tail _ (.tail _ (.tail _ (.tail _ (.tail _ (.tail _ (.tail _ (List.mem_append_right _ (List.mem_append_right _ (List.mem_append_left _ hb))))))))))) : ∀ b ∈ L751, b ∈ (p970 :: (p921 :: (p557 :: (D570 :: (a690 :: (a710 :: (a749 :: (L692 ++ (L712 ++ (L751 ++ []))))))))))) : ∀ b ∈ L751, b ∈ (p970 :: (p921 :: (p557 :: (D570 :: (a690 :: (a710 :: (a749 :: (L692 ++ (L712 ++ (L751 ++ []))))))))))) _ (hs1004 _ List.mem_cons_self)) h1014
                      have w1016 : OwAll G919 H1011 L751 (vs750) ((setL (v746) (0) (setL ((itD (v746) (0))) (((v537 + x533) % (4 + (4 * ((v537 + x533) % 2))))) (((itD ((itD (v746) (0))) (((v537 + x533) % (4 + (4 * ((v537 + x533) % 2)))))) + 1))) : (List (List Int))).map (oL oI)) := upd_tree up1005 x1012 List.mem_cons_self (Ow.ints h1014)
                      have hw := cW_bnd hw
                      obtain ⟨g1018, hw⟩ := cW_grd hw
                      have w1019 : OwAll G919 H1011 L712 (vs711) ((v707 : (List (List Int))).map (oL oI)) := (OwAll.mono (Same.refl _) (keeps_mut x1012 ((fun b hb z => (fun b hb => ((nl_symm (new_nl nb754 (fun b_ hb_ => (S738.ow b_ (((fun b hb => (.tail _ (List.mem_append_left _ hb))) : ∀ b ∈ L712, b ∈ (a710 :: (L712 ++ (a690 :: (L692 ++ (D570 :: (p557 :: []))))))) b_ hb_)).2.1))) b hb)) b hb (z ▸ (hs1004 _ List.mem_cons_self))) : ∀ b ∈ L712, b ≠ b1006)) w980)
                      obtain ⟨v1020, L1021, a1022, w1023, hs1024, up1025⟩ := OwAll.partM (k := 0) w1019 g1018
                      have h1026 := (x1012 _ _ h979 ((((new_ne2 nb754 (S738.ow _ (.head _)).2.1) : ∀ b ∈ L751, b ≠ a710) _ (hs1004 _ List.mem_cons_self))).symm)
                      obtain ⟨b1027, rfl, rfl, h1028⟩ := Ow.toInts w1023
                      obtain ⟨g1029, hw⟩ := cW_grd hw
                      obtain ⟨g1030, hw⟩ := cW_grd hw
                      obtain ⟨v1031, L1032, a1033, w1034, hs1035, up1036⟩ := OwAll.partM (k := 0) w1019 g1030
                      obtain ⟨b1037, rfl, rfl, h1038⟩ := Ow.toInts w1034
                      obtain ⟨g1039, hw⟩ := cW_grd hw
                      refine ⟨_, rfl, _, _, _, _, rfl, rfl, (SqL.of h1026), a1022, _, _, _, _, rfl, rfl, (SqL.of h1028), (atI_map g1029), _, _, rfl, rfl, _, rfl, _, _, _, _, rfl, rfl, (SqL.of h1026), a1033, _, _, _, _, rfl, rfl, h1038, (ixN_map g1039), ?_⟩
                      generalize g1040 : upd H1011 b1037 _ = H1041
                      obtain ⟨x1042, h1043⟩ := gen_mut g1040
                      have h1044 : H1041 b1037 = some (.lst ((setL ((itD (v707) (0))) (0) (((itD ((itD (v707) (0))) (0)) + 1)) : (List Int)).map V.int)) := set_map h1043
                      have S1045 := S1015.mut1 x1042 ((((fun b hb => (.tail _ (.tail _ (.tail _ (.tail _ (.tail _ (.tail _ (.tail _ (List.mem_append_right _ (List.mem_append_left _ hb)))))))))) : ∀ b ∈ L712, b ∈ (p970 :: (p921 :: (p557 :: (D570 :: (a690 :: (a710 :: (a749 :: (L692 ++ (L712 ++ (L751 ++ []))))))))))) : ∀ b ∈ L712, b ∈ (p970 :: (p921 :: (p557 :: (D570 :: (a690 :: (a710 :: (a749 :: (L692 ++ (L712 ++ (L751 ++ []))))))))))) _ (hs1035 _ List.mem_cons_self)) h1044
                      have w1046 : OwAll G919 H1041 L712 (vs711) ((setL (v707) (0) (setL ((itD (v707) (0))) (0) (((itD ((itD (v707) (0))) (0)) + 1))) : (List (List Int))).map (oL oI)) := upd_tree up1036 x1042 List.mem_cons_self (Ow.ints h1044)
                      have hw := cW_bnd hw
                      obtain ⟨g1048, hw⟩ := cW_grd hw
                      have h1049 := (x1042 _ _ (x1012 _ _ (e974 _ _ h968) ((((new_ne2 nb754 (S738.ow _ (.tail _ (List.mem_append_right _ (.tail _ (List.mem_append_right _ (.head _)))))).2.1) : ∀ b ∈ L751, b ≠ D570) _ (hs1004 _ List.mem_cons_self))).symm) ((((new_ne2 nb715 (S705.ow _ (.tail _ (List.mem_append_right _ (.head _)))).2.1) : ∀ b ∈ L712, b ≠ D570) _ (hs1035 _ List.mem_cons_self))).symm)
                      refine ⟨_, rfl, _, ((encL (encL PyData.int)) (acc675)), rfl, (rp_mk_list h1049 (RpAll.mono S1045.sG (RpAll.mono eG920 (RpAll.mono eG756 (RpAll.mono eG717 (RpAll.mono eG697 d677)))))), g1048, _, rfl, rfl, _, rfl, ?_⟩
                      refine iteN (fun c1050 => ?_) (fun c1050 => ?_)
                      · have hw := cW_neg c1050 hw
                        refine iteT ?_
                        have hw := cW_ok hw
                        have hw := hK535 (.rt _) hw
                        have hw := hK511 (.rt _) hw
                        have hw := cW_ok hw
                        exact eq_bl (k _) (hK0 _ hw).symm
                      · have hw := cW_pos c1050 hw
                        obtain ⟨g1051, hw⟩ := cW_grd hw
                        have h1052 := (x1042 _ _ (x1012 _ _ h986 ((((new_ne2 nb754 (S738.ow _ (.tail _ (List.mem_append_right _ (.head _)))).2.1) : ∀ b ∈ L751, b ≠ a690) _ (hs1004 _ List.mem_cons_self))).symm) ((((new_ne2 nb715 (S705.ow _ (.head _)).2.1) : ∀ b ∈ L712, b ≠ a690) _ (hs1035 _ List.mem_cons_self))).symm)
                        have w1053 : OwAll G919 H1041 L692 (vs691) ((setL (v687) (((v537 + x533) % (4 + (4 * ((v537 + x533) % 2))))) (setL ((itD (v687) (((v537 + x533) % (4 + (4 * ((v537 + x533) % 2))))))) (0) (((itD ((itD (v687) (((v537 + x533) % (4 + (4 * ((v537 + x533) % 2))))))) (0)) + 1))) : (List (List Int))).map (oL oI)) := (OwAll.mono (Same.refl _) (keeps_mut x1042 ((fun b hb z => (fun b hb => ((nl_symm (new_nl nb715 (fun b_ hb_ => (S705.ow b_ (((fun b hb => (.tail _ (List.mem_append_left _ hb))) : ∀ b ∈ L692, b ∈ (a690 :: (L692 ++ (D570 :: (p557 :: []))))) b_ hb_)).2.1))) b hb)) b hb (z ▸ (hs1035 _ List.mem_cons_self))) : ∀ b ∈ L692, b ≠ b1037)) (OwAll.mono (Same.refl _) (keeps_mut x1012 ((fun b hb z => (fun b hb => ((nl_symm (new_nl nb754 (fun b_ hb_ => (S738.ow b_ (((fun b hb => (.tail _ (List.mem_append_right _ (.tail _ (List.mem_append_left _ hb))))) : ∀ b ∈ L692, b ∈ (a710 :: (L712 ++ (a690 :: (L692 ++ (D570 :: (p557 :: []))))))) b_ hb_)).2.1))) b hb)) b hb (z ▸ (hs1004 _ List.mem_cons_self))) : ∀ b ∈ L692, b ≠ b1006)) w987))
                        refine ⟨_, rfl, _, ((encL (encL PyData.int)) (setL (v687) (((v537 + x533) % (4 + (4 * ((v537 + x533) % 2))))) (setL ((itD (v687) (((v537 + x533) % (4 + (4 * ((v537 + x533) % 2))))))) (0) (((itD ((itD (v687) (((v537 + x533) % (4 + (4 * ((v537 + x533) % 2))))))) (0)) + 1))))), rfl, (rp_mk_list h1052 (OwAll.rpA w1053 (encO_L encO_I) S1045.sG)), g1051, _, rfl, rfl, _, rfl, ?_⟩
                        refine iteN (fun c1054 => ?_) (fun c1054 => ?_)
                        · have hw := cW_neg c1054 hw
                          have hw := cW_ok hw
                          have hw := hK535 (.rt _) hw
                          have hw := hK511 (.rt _) hw
                          have hw := cW_ok hw
                          exact eq_bl (k _) (hK0 _ hw).symm
                        · have hw := cW_pos c1054 hw
                          refine ⟨(by show 0 ≤ sizeLine; decide), fun p1055 n1056 => ?_⟩
                          generalize g1057 : upd H1041 p1055 _ = H1058
                          obtain ⟨e1059, h1060⟩ := gen_new n1056 g1057
                          have h1061 : H1058 p1055 = some (.lst ([])) := h1060
                          have fr1062 := S1045.free n1056
                          have S1063 := S1045.new n1056 e1059 h1061 fr1062
                          have d1064 : RpAll G919 ([]) ((([] : (List (List Int))) : (List (List Int))).map (encL PyData.int)) := RpAll.nil
                          refine ⟨_, rfl, _, _, rfl, rfl, (show (0 : Int) < 5 by decide), _, _, rfl, rfl, _, rfl, rfl, rfl, G919, _, _, _, _, rfl, S1063.sG, (Rp.hide_nil (rp_mk_list h1061 (RpAll.mono S1063.sG d1064))), cW_call hw (fun v1065 hw H1066 e1067 => ?_) (fun e he => (hE e he).elim)⟩
                          have S1068 := S1063.same e1067
                          refine ⟨_, rfl, ?_⟩
                          refine iteBN (fun c1069 => ?_) (fun c1069 => ?_)
                          · have hw := cW_negB c1069 hw
                            refine iteT ?_
                            have hw := cW_ok hw
                            have hw := hK535 (.rt _) hw
                            have hw := hK511 (.rt _) hw
                            have hw := cW_ok hw
                            exact eq_bl (k _) (hK0 _ hw).symm
                          · have hw := cW_pos c1069 hw
                            refine ⟨(by show 0 ≤ sizeLine; decide), fun p1070 n1071 => ?_⟩
                            generalize g1072 : upd H1066 p1070 _ = H1073
                            obtain ⟨e1074, h1075⟩ := gen_new n1071 g1072
                            have h1076 : H1073 p1070 = some (.lst ([])) := h1075
                            have fr1077 := S1068.free n1071
                            have S1078 := S1068.new n1071 e1074 h1076 fr1077
                            have d1079 : RpAll G919 ([]) ((([] : (List (List Int))) : (List (List Int))).map (encL PyData.int)) := RpAll.nil
                            refine ⟨_, rfl, _, rfl, _, _, rfl, rfl, (show (0 : Int) < 4 by decide), _, _, rfl, rfl, rfl, rfl, G919, _, _, _, _, rfl, S1078.sG, (Rp.hide_nil (rp_mk_list h1076 (RpAll.mono S1078.sG d1079))), cW_call hw (fun v1080 hw H1081 e1082 => ?_) (fun e he => (hE e he).elim)⟩
                            have S1083 := S1078.same e1082
                            refine ⟨_, rfl, ?_⟩
                            refine iteBN (fun c1084 => ?_) (fun c1084 => ?_)
                            · have hw := cW_negB c1084 hw
                              have hw := cW_ok hw
                              have hw := hK535 (.rt _) hw
                              have hw := hK511 (.rt _) hw
                              have hw := cW_ok hw
                              exact eq_bl (k _) (hK0 _ hw).symm
                            · have hw := cW_pos c1084 hw
                              refine ⟨(by show 0 ≤ sizeLine; decide), fun p1085 n1086 => ?_⟩
                              generalize g1087 : upd H1081 p1085 _ = H1088
                              obtain ⟨e1089, h1090⟩ := gen_new n1086 g1087
                              have h1091 : H1088 p1085 = some (.lst ([])) := h1090
                              have fr1092 := S1083.free n1086
                              have S1093 := S1083.new n1086 e1089 h1091 fr1092
                              have d1094 : RpAll G919 ([]) ((([] : (List (List Int))) : (List (List Int))).map (encL PyData.int)) := RpAll.nil
                              refine ⟨_, rfl, _, rfl, rfl, rfl, G919, _, _, _, _, rfl, S1093.sG, (Rp.hide_nil (rp_mk_list h1091 (RpAll.mono S1093.sG d1094))), cW_call hw (fun v1095 hw H1096 a1098 vs1099 L1100 G1101 n1102 nb1103 nd1104 e1097 eG1105 sG1106 hn1107 ga1108 gL1109 h1110 w1111 => ?_) (fun e he => (hE e he).elim)⟩
                              have fr1112 := S1093.free n1102
                              have S1113 : Sep _ _ _ _ H1096 (a1098 :: (L1100 ++ (p1085 :: (p1070 :: (p1055 :: (p970 :: (p921 :: (p557 :: (D570 :: (a690 :: (a710 :: (a749 :: (L692 ++ (L712 ++ (L751 ++ []))))))))))))))) := Sep.steptree S1093 e1097 eG1105 sG1106 hn1107 (a1098 :: L1100) (all_cons ⟨n1102, ga1108, some_ne h1110⟩ (fun b hb => ⟨nb1103 b hb, gL1109 b hb, OwAll.there w1111 b hb⟩))
                              refine ⟨(by show 0 ≤ sizeLine; decide), fun p1114 n1115 => ?_⟩
                              generalize g1116 : upd H1096 p1114 _ = H1117
                              obtain ⟨e1118, h1119⟩ := gen_new n1115 g1116
                              have h1120 : H1117 p1114 = some (.lst ([])) := h1119
                              have fr1121 := S1113.free n1115
                              have S1122 := S1113.new n1115 e1118 h1120 fr1121
                              have d1123 : RpAll G1101 ([]) ((([] : (List (List Int))) : (List (List Int))).map (encL PyData.int)) := RpAll.nil
                              have h1124 := (e1118 _ _ h1110)
                              have w1125 : OwAll G1101 H1117 L1100 (vs1099) ((v1095 : (List (List Int))).map (oL oI)) := (OwAll.mono (Same.refl _) (keeps_same e1118) w1111)
                              refine ⟨_, _, (rp_mk_list h1124 (OwAll.rpA w1125 (encO_L encO_I) S1122.sG)), (rp_mk_list h1120 (RpAll.mono S1122.sG d1123)), _, rfl, ?_⟩
                              refine iteN (fun c1126 => ?_) (fun c1126 => ?_)
                              · have hw := cW_neg c1126 hw
                                refine iteT ?_
                                have hw := cW_ok hw
                                have hw := hK535 (.rt _) hw
                                have hw := hK511 (.rt _) hw
                                have hw := cW_ok hw
                                exact eq_bl (k _) (hK0 _ hw).symm
                              · have hw := cW_pos c1126 hw
                                refine ⟨(by show 0 ≤ sizeLine; decide), fun p1127 n1128 => ?_⟩
                                generalize g1129 : upd H1117 p1127 _ = H1130
                                obtain ⟨e1131, h1132⟩ := gen_new n1128 g1129
                                have h1133 : H1130 p1127 = some (.lst ([])) := h1132
                                have fr1134 := S1122.free n1128
                                have S1135 := S1122.new n1128 e1131 h1133 fr1134
                                have d1136 : RpAll G1101 ([]) ((([] : (List (List Int))) : (List (List Int))).map (encL PyData.int)) := RpAll.nil
                                refine ⟨_, rfl, rfl, rfl, G1101, _, _, _, rfl, S1135.sG, (Rp.hide_nil (rp_mk_list h1133 (RpAll.mono S1135.sG d1136))), cW_call hw (fun v1137 hw H1138 a1140 vs1141 L1142 G1143 n1144 nb1145 nd1146 e1139 eG1147 sG1148 hn1149 ga1150 gL1151 h1152 w1153 => ?_) (fun e he => (hE e he).elim)⟩
                                have fr1154 := S1135.free n1144
                                have S1155 : Sep _ _ _ _ H1138 (a1140 :: (L1142 ++ (p1127 :: (p1114 :: (a1098 :: (L1100 ++ (p1085 :: (p1070 :: (p1055 :: (p970 :: (p921 :: (p557 :: (D570 :: (a690 :: (a710 :: (a749 :: (L692 ++ (L712 ++ (L751 ++ []))))))))))))))))))) := Sep.steptree S1135 e1139 eG1147 sG1148 hn1149 (a1140 :: L1142) (all_cons ⟨n1144, ga1150, some_ne h1152⟩ (fun b hb => ⟨nb1145 b hb, gL1151 b hb, OwAll.there w1153 b hb⟩))
                                refine ⟨(by show 0 ≤ sizeLine; decide), fun p1156 n1157 => ?_⟩
                                generalize g1158 : upd H1138 p1156 _ = H1159
                                obtain ⟨e1160, h1161⟩ := gen_new n1157 g1158
                                have h1162 : H1159 p1156 = some (.lst ([])) := h1161
                                have fr1163 := S1155.free n1157
                                have S1164 := S1155.new n1157 e1160 h1162 fr1163
                                have d1165 : RpAll G1143 ([]) ((([] : (List (List Int))) : (List (List Int))).map (encL PyData.int)) := RpAll.nil
                                have h1166 := (e1160 _ _ h1152)
                                have w1167 : OwAll G1143 H1159 L1142 (vs1141) ((v1137 : (List (List Int))).map (oL oI)) := (OwAll.mono (Same.refl _) (keeps_same e1160) w1153)
                                refine ⟨_, _, (rp_mk_list h1166 (OwAll.rpA w1167 (encO_L encO_I) S1164.sG)), (rp_mk_list h1162 (RpAll.mono S1164.sG d1165)), _, rfl, ?_⟩
                                refine iteN (fun c1168 => ?_) (fun c1168 => ?_)
                                · have hw := cW_neg c1168 hw
                                  have hw := cW_ok hw
                                  have hw := hK535 (.rt _) hw
                                  have hw := hK511 (.rt _) hw
                                  have hw := cW_ok hw
                                  exact eq_bl (k _) (hK0 _ hw).symm
                                · have hw := cW_pos c1168 hw
                                  have h1169 := (e1160 _ _ (e1139 _ _ (e1131 _ _ (e1118 _ _ (e1097 _ _ (e1089 _ _ (e1082 _ _ (e1074 _ _ (e1067 _ _ (e1059 _ _ h1049))))))))))
                                  refine ⟨_, rfl, _, rfl, _, _, rfl, rfl, (show (0 : Int) < 5 by decide), _, _, rfl, rfl, _, rfl, rfl, rfl, G1143, _, _, _, _, rfl, S1164.sG, (Rp.hide_nil (rp_mk_list h1169 (RpAll.mono S1164.sG (RpAll.mono eG1147 (RpAll.mono eG1105 (RpAll.mono eG920 (RpAll.mono eG756 (RpAll.mono eG717 (RpAll.mono eG697 d677))))))))), cW_call hw (fun v1170 hw H1171 e1172 => ?_) (fun e he => (hE e he).elim)⟩
                                  have S1173 := S1164.same e1172
                                  refine ⟨_, rfl, ?_⟩
                                  refine iteBN (fun c1174 => ?_) (fun c1174 => ?_)
                                  · have hw := cW_negB c1174 hw
                                    refine iteT ?_
                                    have hw := cW_ok hw
                                    have hw := hK535 (.rt _) hw
                                    have hw := hK511 (.rt _) hw
                                    have hw := cW_ok hw
                                    exact eq_bl (k _) (hK0 _ hw).symm
                                  · have hw := cW_pos c1174 hw
                                    have h1175 := (e1172 _ _ h1169)
                                    refine ⟨_, rfl, _, rfl, _, rfl, _, _, rfl, rfl, (show (0 : Int) < 5 by decide), _, _, rfl, rfl, _, rfl, rfl, rfl, G1143, _, _, _, _, rfl, S1173.sG, (Rp.hide_nil (rp_mk_list h1175 (RpAll.mono S1173.sG (RpAll.mono eG1147 (RpAll.mono eG1105 (RpAll.mono eG920 (RpAll.mono eG756 (RpAll.mono eG717 (RpAll.mono eG697 d677))))))))), cW_call hw (fun v1176 hw H1177 e1178 => ?_) (fun e he => (hE e he).elim)⟩
                                    have S1179 := S1173.same e1178
                                    refine ⟨_, rfl, ?_⟩
                                    refine iteBN (fun c1180 => ?_) (fun c1180 => ?_)
                                    · have hw := cW_negB c1180 hw
                                      have hw := cW_ok hw
                                      have hw := hK535 (.rt _) hw
                                      have hw := hK511 (.rt _) hw
                                      have hw := cW_ok hw
                                      exact eq_bl (k _) (hK0 _ hw).symm
                                    · have hw := cW_pos c1180 hw
                                      have h1181 := (e1178 _ _ h1175)
                                      refine ⟨_, rfl, _, rfl, _, rfl, _, _, rfl, rfl, (show (0 : Int) < 4 by decide), _, _, rfl, rfl, rfl, rfl, G1143, _, _, _, _, rfl, S1179.sG, (Rp.hide_nil (rp_mk_list h1181 (RpAll.mono S1179.sG (RpAll.mono eG1147 (RpAll.mono eG1105 (RpAll.mono eG920 (RpAll.mono eG756 (RpAll.mono eG717 (RpAll.mono eG697 d677))))))))), cW_call hw (fun v1182 hw H1183 e1184 => ?_) (fun e he => (hE e he).elim)⟩
                                      have S1185 := S1179.same e1184
                                      refine ⟨_, rfl, ?_⟩
                                      refine iteBN (fun c1186 => ?_) (fun c1186 => ?_)
                                      · have hw := cW_negB c1186 hw
                                        refine iteT ?_
                                        have hw := cW_ok hw
                                        have hw := hK535 (.rt _) hw
                                        have hw := hK511 (.rt _) hw
                                        have hw := cW_ok hw
                                        exact eq_bl (k _) (hK0 _ hw).symm
                                      · have hw := cW_pos c1186 hw
                                        have h1187 := (e1184 _ _ h1181)
                                        refine ⟨_, rfl, _, rfl, _, rfl, _, rfl, _, _, rfl, rfl, (show (0 : Int) < 4 by decide), _, _, rfl, rfl, rfl, rfl, G1143, _, _, _, _, rfl, S1185.sG, (Rp.hide_nil (rp_mk_list h1187 (RpAll.mono S1185.sG (RpAll.mono eG1147 (RpAll.mono eG1105 (RpAll.mono eG920 (RpAll.mono eG756 (RpAll.mono eG717 (RpAll.mono eG697 d677))))))))), cW_call hw (fun v1188 hw H1189 e1190 => ?_) (fun e he => (hE e he).elim)⟩
                                        have S1191 := S1185.same e1190
                                        refine ⟨_, rfl, ?_⟩
                                        refine iteBN (fun c1192 => ?_) (fun c1192 => ?_)
                                        · have hw := cW_negB c1192 hw
                                          have hw := cW_ok hw
                                          have hw := hK535 (.rt _) hw
                                          have hw := hK511 (.rt _) hw
                                          have hw := cW_ok hw
                                          exact eq_bl (k _) (hK0 _ hw).symm
                                        · have hw := cW_pos c1192 hw
                                          have hw := cW_ok hw
                                          have hw := hK535 _ hw
                                          exact ⟨_, _, _, _, _, _, _, _, _, _, _, _, _, _, _, _, _, _, rfl, (Same.trans (Same.trans (Same.trans (Same.trans (Same.trans (Same.trans (Same.trans eG532 eG674) eG697) eG717) eG756) eG920) eG1105) eG1147), (S1191.sub all_nil), hw⟩
    · intro σ H1193 hw
      obtain ⟨u512, u513, u514, u515, u516, u517, u518, u519, u520, u521, u522, u523, u524, u525, u526, u527, u528, G1195, rfl, eG1196, S1194, hw⟩ := hw
      have hw := hK511 _ (cW_forR0 (rng_len _ _).symm hw)
      have hw : cW (F_law_r1  ) _ EE := hw
      unfold F_law_r1 at hw
      have hw := cW_ok hw
      exact eq_bl (k _) (hK0 _ hw).symm
end
def spL (K : PySem.W.Frag) : Sp := fun vs H Q _ => ∃ (a_script : Addr) (script : List Int), vs = [.ref a_script] ∧ SqL K H a_script (script.map V.int) ∧ script.length ≤ 63 ∧ ∀ H', Q (.bl true) H'
theorem all_mk {l : PySem.W.OpenLaw} {w : World} {K : PySem.W.Frag} {h : Heap} {mg : Str → Option Value} {fa : Addr} (X : K.In h) (G : h.Ns mainGlobals mg) (hfa : mg "law" = some (.ref fa))
    {f0 f1 f2 f3 f4 f5 f6 f7 f8 f9 f10 XOutOfRange : Addr} {od0 an0 od1 an1 od2 an2 od3 an3 od4 an4 od5 an5 od6 an6 od7 an7 od8 an8 od9 an9 od10 an10 : Option Addr} {sl0 sl1 sl2 sl3 sl4 sl5 sl6 sl7 sl8 sl9 sl10 : Array (Option Value)} {oc0 kV0 dc0 pm0 cd0 ct0 oc1 kV1 dc1 pm1 cd1 ct1 oc2 kV2 dc2 pm2 cd2 ct2 oc3 kV3 dc3 pm3 cd3 ct3 oc4 dc4 pm4 cd4 ct4 oc5 kV5 dc5 pm5 cd5 ct5 oc6 kV6 dc6 pm6 cd6 ct6 oc7 kV7 dc7 pm7 cd7 ct7 oc8 kV8 dc8 pm8 cd8 ct8 oc9 kV9 dc9 pm9 cd9 ct9 oc10 kV10 dc10 pm10 cd10 ct10 : Value} {D4 : Addr} {ktk4_0 : Tok} {tk2 tk3 : Tok}
    (vOutOfRange : PySem.W.nsIn K mainGlobals "OutOfRange" = some (some (.ref XOutOfRange))) (a0 : PySem.W.nsIn K mainGlobals "_law_digits" = some (some (.ref f0))) (l0 : K.lookup f0 = some ⟨oc0, od0, .func (PySem.W.fnOf "_law_digits" "_law_digits" (defArgs s__law_digits) (defBody s__law_digits) (defScope s__law_digits) .none kV0 dc0 pm0 an0 cd0 ct0), sl0⟩) (c0 : PySem.W.codeIn K cd0 "_law_digits" = true) (k0 : PySem.W.keepIn K (.ref f0) = true) (a1 : PySem.W.nsIn K mainGlobals "step_of" = some (some (.ref f1))) (l1 : K.lookup f1 = some ⟨oc1, od1, .func (PySem.W.fnOf "step_of" "step_of" (defArgs s_step_of) (defBody s_step_of) (defScope s_step_of) .none kV1 dc1 pm1 an1 cd1 ct1), sl1⟩) (c1 : PySem.W.codeIn K cd1 "step_of" = true) (k1 : PySem.W.keepIn K (.ref f1) = true) (a2 : PySem.W.nsIn K mainGlobals "_rounding_of" = some (some (.ref f2))) (l2 : K.lookup f2 = some ⟨oc2, od2, .func (PySem.W.fnOf "_rounding_of" "_rounding_of" (defArgs s__rounding_of) (defBody s__rounding_of) (defScope s__rounding_of) .none kV2 dc2 pm2 an2 cd2 ct2), sl2⟩) (c2 : PySem.W.codeIn K cd2 "_rounding_of" = true) (k2 : PySem.W.keepIn K (.ref f2) = true) (a3 : PySem.W.nsIn K mainGlobals "_level_of" = some (some (.ref f3))) (l3 : K.lookup f3 = some ⟨oc3, od3, .func (PySem.W.fnOf "_level_of" "_level_of" (defArgs s__level_of) (defBody s__level_of) (defScope s__level_of) .none kV3 dc3 pm3 an3 cd3 ct3), sl3⟩) (c3 : PySem.W.codeIn K cd3 "_level_of" = true) (k3 : PySem.W.keepIn K (.ref f3) = true) (a4 : PySem.W.nsIn K mainGlobals "quantize_square" = some (some (.ref f4))) (l4 : K.lookup f4 = some ⟨oc4, od4, .func (PySem.W.fnOf "quantize_square" "quantize_square" (defArgs s_quantize_square) (defBody s_quantize_square) (defScope s_quantize_square) .none (.ref D4) dc4 pm4 an4 cd4 ct4), sl4⟩) (c4 : PySem.W.codeIn K cd4 "quantize_square" = true) (k4 : PySem.W.keepIn K (.ref f4) = true) (kd4_0 : PySem.W.nsIn K D4 "rounding" = some (some (.int 4 ktk4_0))) (a5 : PySem.W.nsIn K mainGlobals "restore_square" = some (some (.ref f5))) (l5 : K.lookup f5 = some ⟨oc5, od5, .func (PySem.W.fnOf "restore_square" "restore_square" (defArgs s_restore_square) (defBody s_restore_square) (defScope s_restore_square) .none kV5 dc5 pm5 an5 cd5 ct5), sl5⟩) (c5 : PySem.W.codeIn K cd5 "restore_square" = true) (k5 : PySem.W.keepIn K (.ref f5) = true) (a6 : PySem.W.nsIn K mainGlobals "_law_cell" = some (some (.ref f6))) (l6 : K.lookup f6 = some ⟨oc6, od6, .func (PySem.W.fnOf "_law_cell" "_law_cell" (defArgs s__law_cell) (defBody s__law_cell) (defScope s__law_cell) .none kV6 dc6 pm6 an6 cd6 ct6), sl6⟩) (c6 : PySem.W.codeIn K cd6 "_law_cell" = true) (k6 : PySem.W.keepIn K (.ref f6) = true) (a7 : PySem.W.nsIn K mainGlobals "_law_is_square" = some (some (.ref f7))) (l7 : K.lookup f7 = some ⟨oc7, od7, .func (PySem.W.fnOf "_law_is_square" "_law_is_square" (defArgs s__law_is_square) (defBody s__law_is_square) (defScope s__law_is_square) .none kV7 dc7 pm7 an7 cd7 ct7), sl7⟩) (c7 : PySem.W.codeIn K cd7 "_law_is_square" = true) (k7 : PySem.W.keepIn K (.ref f7) = true) (a8 : PySem.W.nsIn K mainGlobals "_law_due" = some (some (.ref f8))) (l8 : K.lookup f8 = some ⟨oc8, od8, .func (PySem.W.fnOf "_law_due" "_law_due" (defArgs s__law_due) (defBody s__law_due) (defScope s__law_due) .none kV8 dc8 pm8 an8 cd8 ct8), sl8⟩) (c8 : PySem.W.codeIn K cd8 "_law_due" = true) (k8 : PySem.W.keepIn K (.ref f8) = true) (a9 : PySem.W.nsIn K mainGlobals "_law_refused" = some (some (.ref f9))) (l9 : K.lookup f9 = some ⟨oc9, od9, .func (PySem.W.fnOf "_law_refused" "_law_refused" (defArgs s__law_refused) (defBody s__law_refused) (defScope s__law_refused) .none kV9 dc9 pm9 an9 cd9 ct9), sl9⟩) (c9 : PySem.W.codeIn K cd9 "_law_refused" = true) (k9 : PySem.W.keepIn K (.ref f9) = true) (a10 : PySem.W.nsIn K mainGlobals "law" = some (some (.ref f10))) (l10 : K.lookup f10 = some ⟨oc10, od10, .func (PySem.W.fnOf "law" "law" (defArgs s_law) (defBody s_law) (defScope s_law) .none kV10 dc10 pm10 an10 cd10 ct10), sl10⟩) (c10 : PySem.W.codeIn K cd10 "law" = true) (k10 : PySem.W.keepIn K (.ref f10) = true)
    (z0 : PySem.W.nsIn K mainGlobals "int" = some none) (z1 : PySem.W.nsIn K mainGlobals "range" = some none) (z2 : PySem.W.nsIn K mainGlobals "GREATEST_QUANTIZER" = some (some (.int 31 tk2))) (z3 : PySem.W.nsIn K mainGlobals "GREATEST_ROUNDING" = some (some (.int 8 tk3))) (z4 : PySem.W.nsIn K mainGlobals "abs" = some none) (z5 : PySem.W.nsIn K mainGlobals "len" = some none) (z6 : PySem.W.nsIn K mainGlobals "isinstance" = some none) (z7 : PySem.W.nsIn K mainGlobals "list" = some none) (z8 : PySem.W.nsIn K mainGlobals "bool" = some none) (z9 : PySem.W.nsIn K mainGlobals "repr" = some none) (z10 : PySem.W.nsIn K mainGlobals "min" = some none) (exOutOfRange : PySem.W.excIn K XOutOfRange [.type "ValueError", .type "Exception", .type "BaseException", .type "object"] "ValueError.__new__" = true) (ekOutOfRange : PySem.W.keepIn K (.ref XOutOfRange) = true) (ebOutOfRange : PySem.W.subIn K (.ref XOutOfRange) (.type "BaseException") = some true) (etOutOfRange : PySem.W.typeIn K (.ref XOutOfRange) = some (.type "type")) (eiOutOfRangeOutOfRange : PySem.W.isClsIn K XOutOfRange = true) (esOutOfRangeOutOfRange : PySem.W.subIn K (.ref XOutOfRange) (.ref XOutOfRange) = some true) :
    ∃ fd : FuncData, (∀ (s : Shared) (v : Value), BindsTo s fd ⟨[v], []⟩ [("script", v)]) ∧ ∀ base : Heap, K.In base → base.Ns mainGlobals mg → FnG l.prog w K mg base CX0 4 fa fd ["script"] (spL K) := by
  have e := hfa.symm.trans (PySem.W.mg_of X G a10)
  cases e
  have T : Txt K mg ⟨fa, XOutOfRange, fa⟩ := ⟨PySem.W.mg_none_of X G z0, PySem.W.mg_none_of X G z1, ⟨_, PySem.W.mg_of X G z2, ⟨_, rfl⟩⟩, ⟨_, PySem.W.mg_of X G z3, ⟨_, rfl⟩⟩, PySem.W.mg_none_of X G z4, PySem.W.mg_none_of X G z5, PySem.W.mg_none_of X G z6, PySem.W.mg_none_of X G z7, PySem.W.mg_none_of X G z8, PySem.W.mg_none_of X G z9, PySem.W.mg_none_of X G z10, PySem.W.mg_of X G vOutOfRange, exOutOfRange, ekOutOfRange, ebOutOfRange, etOutOfRange, exm_mk ebOutOfRange eiOutOfRangeOutOfRange etOutOfRange esOutOfRangeOutOfRange⟩
  have F0 : FunD K "_law_digits" "_law_digits" (defArgs s__law_digits) (defBody s__law_digits) (defScope s__law_digits) [] [] f0 _ := ⟨⟨_, _, _, _, _, _, _, _, _, _, rfl, l0, c0, .inl ⟨rfl, rfl⟩, .inl rfl⟩, k0⟩
  have D_0 : DefX K mg "_law_digits" s__law_digits ["cell", "base", "most"] pats__law_digits := ⟨_, _, _, _, F0, PySem.W.mg_of X G a0, (all_consQ (Bnd.all fun us ws vs zs l1 l2 r rz => by
      obtain ⟨u0, u1, u2, rfl⟩ := len3 (r.length.symm.trans l1)
      obtain rfl := len0 (rz.length.symm.trans l2)
      cases r with | cons r0 r =>
        cases r with | cons r1 r =>
          cases r with | cons r2 r =>
            cases r
            cases rz
            exact ⟨[u0, u1, u2], rfl, (.cons r0 (.cons r1 (.cons r2 .nil)))⟩) all_nilQ)⟩
  have F1 : FunD K "step_of" "step_of" (defArgs s_step_of) (defBody s_step_of) (defScope s_step_of) [] [] f1 _ := ⟨⟨_, _, _, _, _, _, _, _, _, _, rfl, l1, c1, .inl ⟨rfl, rfl⟩, .inl rfl⟩, k1⟩
  have D_1 : DefX K mg "step_of" s_step_of ["quantizer"] pats_step_of := ⟨_, _, _, _, F1, PySem.W.mg_of X G a1, (all_consQ (Bnd.all fun us ws vs zs l1 l2 r rz => by
      obtain ⟨u0, rfl⟩ := len1 (r.length.symm.trans l1)
      obtain rfl := len0 (rz.length.symm.trans l2)
      cases r with | cons r0 r =>
        cases r
        cases rz
        exact ⟨[u0], rfl, (.cons r0 .nil)⟩) all_nilQ)⟩
  have F2 : FunD K "_rounding_of" "_rounding_of" (defArgs s__rounding_of) (defBody s__rounding_of) (defScope s__rounding_of) [] [] f2 _ := ⟨⟨_, _, _, _, _, _, _, _, _, _, rfl, l2, c2, .inl ⟨rfl, rfl⟩, .inl rfl⟩, k2⟩
  have D_2 : DefX K mg "_rounding_of" s__rounding_of ["step", "rounding"] pats__rounding_of := ⟨_, _, _, _, F2, PySem.W.mg_of X G a2, (all_consQ (Bnd.all fun us ws vs zs l1 l2 r rz => by
      obtain ⟨u0, u1, rfl⟩ := len2 (r.length.symm.trans l1)
      obtain rfl := len0 (rz.length.symm.trans l2)
      cases r with | cons r0 r =>
        cases r with | cons r1 r =>
          cases r
          cases rz
          exact ⟨[u0, u1], rfl, (.cons r0 (.cons r1 .nil))⟩) all_nilQ)⟩
  have F3 : FunD K "_level_of" "_level_of" (defArgs s__level_of) (defBody s__level_of) (defScope s__level_of) [] [] f3 _ := ⟨⟨_, _, _, _, _, _, _, _, _, _, rfl, l3, c3, .inl ⟨rfl, rfl⟩, .inl rfl⟩, k3⟩
  have D_3 : DefX K mg "_level_of" s__level_of ["value", "step", "more"] pats__level_of := ⟨_, _, _, _, F3, PySem.W.mg_of X G a3, (all_consQ (Bnd.all fun us ws vs zs l1 l2 r rz => by
      obtain ⟨u0, u1, u2, rfl⟩ := len3 (r.length.symm.trans l1)
      obtain rfl := len0 (rz.length.symm.trans l2)
      cases r with | cons r0 r =>
        cases r with | cons r1 r =>
          cases r with | cons r2 r =>
            cases r
            cases rz
            exact ⟨[u0, u1, u2], rfl, (.cons r0 (.cons r1 (.cons r2 .nil)))⟩) all_nilQ)⟩
  have F4 : FunD K "quantize_square" "quantize_square" (defArgs s_quantize_square) (defBody s_quantize_square) (defScope s_quantize_square) [] [("rounding", V.int 4)] f4 _ := ⟨⟨_, _, _, _, _, _, _, _, _, _, rfl, l4, c4, .inl ⟨rfl, rfl⟩, (.inr ⟨_, rfl, (all_consQ ⟨_, kd4_0, ⟨_, rfl⟩⟩ all_nilQ)⟩)⟩, k4⟩
  have D_4 : DefX K mg "quantize_square" s_quantize_square ["square", "quantizer", "rounding"] pats_quantize_square := ⟨_, _, _, _, F4, PySem.W.mg_of X G a4, (all_consQ (Bnd.all fun us ws vs zs l1 l2 r rz => by
      obtain ⟨u0, rfl⟩ := len1 (r.length.symm.trans l1)
      obtain ⟨w0, w1, rfl⟩ := len2 (rz.length.symm.trans l2)
      cases r with | cons r0 r =>
        cases r
        cases rz with | cons q0 rz =>
          cases rz with | cons q1 rz =>
            cases rz
            exact ⟨[u0, w0, w1], rfl, (.cons r0 (.cons q0 (.cons q1 .nil)))⟩) (all_consQ (Exists.elim (FunD.kbinds0 F4 1 ["quantizer"] [("rounding", V.int 4)] (fun {α} => gk_quantize_square_1 (α := α)) (by simp) (by simp) (fun r s q => gkrel_quantize_square_1 r s q) (fun D doc pm an cdv ct us mv ws h1 h2 h3 => by
        obtain ⟨u0, rfl⟩ := len1 h1
        obtain ⟨m0, rfl⟩ := len1 h2
        obtain ⟨w0, rfl⟩ := len1 h3
        exact ⟨_, _, _, _, _, _, rfl, rfl, rfl⟩)) fun _ hb => Bnd.of_kbn hb) all_nilQ))⟩
  have F5 : FunD K "restore_square" "restore_square" (defArgs s_restore_square) (defBody s_restore_square) (defScope s_restore_square) [] [] f5 _ := ⟨⟨_, _, _, _, _, _, _, _, _, _, rfl, l5, c5, .inl ⟨rfl, rfl⟩, .inl rfl⟩, k5⟩
  have D_5 : DefX K mg "restore_square" s_restore_square ["square", "quantizer"] pats_restore_square := ⟨_, _, _, _, F5, PySem.W.mg_of X G a5, (all_consQ (Bnd.all fun us ws vs zs l1 l2 r rz => by
      obtain ⟨u0, u1, rfl⟩ := len2 (r.length.symm.trans l1)
      obtain rfl := len0 (rz.length.symm.trans l2)
      cases r with | cons r0 r =>
        cases r with | cons r1 r =>
          cases r
          cases rz
          exact ⟨[u0, u1], rfl, (.cons r0 (.cons r1 .nil))⟩) all_nilQ)⟩
  have F6 : FunD K "_law_cell" "_law_cell" (defArgs s__law_cell) (defBody s__law_cell) (defScope s__law_cell) [] [] f6 _ := ⟨⟨_, _, _, _, _, _, _, _, _, _, rfl, l6, c6, .inl ⟨rfl, rfl⟩, .inl rfl⟩, k6⟩
  have D_6 : DefX K mg "_law_cell" s__law_cell ["script", "k"] pats__law_cell := ⟨_, _, _, _, F6, PySem.W.mg_of X G a6, (all_consQ (Bnd.all fun us ws vs zs l1 l2 r rz => by
      obtain ⟨u0, u1, rfl⟩ := len2 (r.length.symm.trans l1)
      obtain rfl := len0 (rz.length.symm.trans l2)
      cases r with | cons r0 r =>
        cases r with | cons r1 r =>
          cases r
          cases rz
          exact ⟨[u0, u1], rfl, (.cons r0 (.cons r1 .nil))⟩) all_nilQ)⟩
  have F7 : FunD K "_law_is_square" "_law_is_square" (defArgs s__law_is_square) (defBody s__law_is_square) (defScope s__law_is_square) [] [] f7 _ := ⟨⟨_, _, _, _, _, _, _, _, _, _, rfl, l7, c7, .inl ⟨rfl, rfl⟩, .inl rfl⟩, k7⟩
  have D_7 : DefX K mg "_law_is_square" s__law_is_square ["actual", "size"] pats__law_is_square := ⟨_, _, _, _, F7, PySem.W.mg_of X G a7, (all_consQ (Bnd.all fun us ws vs zs l1 l2 r rz => by
      obtain ⟨u0, u1, rfl⟩ := len2 (r.length.symm.trans l1)
      obtain rfl := len0 (rz.length.symm.trans l2)
      cases r with | cons r0 r =>
        cases r with | cons r1 r =>
          cases r
          cases rz
          exact ⟨[u0, u1], rfl, (.cons r0 (.cons r1 .nil))⟩) all_nilQ)⟩
  have F8 : FunD K "_law_due" "_law_due" (defArgs s__law_due) (defBody s__law_due) (defScope s__law_due) [] [] f8 _ := ⟨⟨_, _, _, _, _, _, _, _, _, _, rfl, l8, c8, .inl ⟨rfl, rfl⟩, .inl rfl⟩, k8⟩
  have D_8 : DefX K mg "_law_due" s__law_due ["value", "step", "rounding"] pats__law_due := ⟨_, _, _, _, F8, PySem.W.mg_of X G a8, (all_consQ (Bnd.all fun us ws vs zs l1 l2 r rz => by
      obtain ⟨u0, u1, u2, rfl⟩ := len3 (r.length.symm.trans l1)
      obtain rfl := len0 (rz.length.symm.trans l2)
      cases r with | cons r0 r =>
        cases r with | cons r1 r =>
          cases r with | cons r2 r =>
            cases r
            cases rz
            exact ⟨[u0, u1, u2], rfl, (.cons r0 (.cons r1 (.cons r2 .nil)))⟩) all_nilQ)⟩
  have F9 : FunD K "_law_refused" "_law_refused" (defArgs s__law_refused) (defBody s__law_refused) (defScope s__law_refused) [] [] f9 _ := ⟨⟨_, _, _, _, _, _, _, _, _, _, rfl, l9, c9, .inl ⟨rfl, rfl⟩, .inl rfl⟩, k9⟩
  have D_9 : DefX K mg "_law_refused" s__law_refused ["rows", "quantizer", "rounding"] pats__law_refused := ⟨_, _, _, _, F9, PySem.W.mg_of X G a9, (all_consQ (Bnd.all fun us ws vs zs l1 l2 r rz => by
      obtain ⟨u0, u1, u2, rfl⟩ := len3 (r.length.symm.trans l1)
      obtain rfl := len0 (rz.length.symm.trans l2)
      cases r with | cons r0 r =>
        cases r with | cons r1 r =>
          cases r with | cons r2 r =>
            cases r
            cases rz
            exact ⟨[u0, u1, u2], rfl, (.cons r0 (.cons r1 (.cons r2 .nil)))⟩) all_nilQ)⟩
  have F10 : FunD K "law" "law" (defArgs s_law) (defBody s_law) (defScope s_law) [] [] _ _ := ⟨⟨_, _, _, _, _, _, _, _, _, _, rfl, l10, c10, .inl ⟨rfl, rfl⟩, .inl rfl⟩, k10⟩
  have R__law_digits : ∀ base : Heap, CalX l.prog w K mg base 1 "_law_digits" (sp__law_digits K ⟨fa, XOutOfRange, fa⟩) pats__law_digits := fun base => ok__law_digits D_0 T 
  have R_step_of : ∀ base : Heap, CalX l.prog w K mg base 1 "step_of" (sp_step_of K ⟨fa, XOutOfRange, fa⟩) pats_step_of := fun base => ok_step_of D_1 T 
  have R__rounding_of : ∀ base : Heap, CalX l.prog w K mg base 1 "_rounding_of" (sp__rounding_of K ⟨fa, XOutOfRange, fa⟩) pats__rounding_of := fun base => ok__rounding_of D_2 T 
  have R__level_of : ∀ base : Heap, CalX l.prog w K mg base 1 "_level_of" (sp__level_of K ⟨fa, XOutOfRange, fa⟩) pats__level_of := fun base => ok__level_of D_3 T 
  have R_quantize_square : ∀ base : Heap, CalX l.prog w K mg base 2 "quantize_square" (sp_quantize_square K ⟨fa, XOutOfRange, fa⟩) pats_quantize_square := fun base => ok_quantize_square D_4 T (R_step_of base) (R__rounding_of base) (R__level_of base)
  have R_restore_square : ∀ base : Heap, CalX l.prog w K mg base 2 "restore_square" (sp_restore_square K ⟨fa, XOutOfRange, fa⟩) pats_restore_square := fun base => ok_restore_square D_5 T (R_step_of base)
  have R__law_cell : ∀ base : Heap, CalX l.prog w K mg base 1 "_law_cell" (sp__law_cell K ⟨fa, XOutOfRange, fa⟩) pats__law_cell := fun base => ok__law_cell D_6 T 
  have R__law_is_square : ∀ base : Heap, CalX l.prog w K mg base 1 "_law_is_square" (sp__law_is_square K ⟨fa, XOutOfRange, fa⟩) pats__law_is_square := fun base => ok__law_is_square D_7 T 
  have R__law_due : ∀ base : Heap, CalX l.prog w K mg base 1 "_law_due" (sp__law_due K ⟨fa, XOutOfRange, fa⟩) pats__law_due := fun base => ok__law_due D_8 T 
  have R__law_refused : ∀ base : Heap, CalX l.prog w K mg base 3 "_law_refused" (sp__law_refused K ⟨fa, XOutOfRange, fa⟩) pats__law_refused := fun base => ok__law_refused D_9 T (R_quantize_square base) (R_restore_square base)

  refine ⟨PySem.W.fnOf "law" "law" (defArgs s_law) (defBody s_law) (defScope s_law) .none kV10 dc10 pm10 an10 cd10 ct10, fun s v => .of_eq rfl, fun base _ _ => (ok_law (AD := ⟨fa, XOutOfRange, fa⟩) F10 T (R__law_cell base) (R__law_digits base) (R_quantize_square base) (R__law_is_square base) (R_restore_square base) (R__law_due base) (R__law_refused base)).imp ?_⟩
  rintro vs H Q E ⟨a, xs, rfl, hs, hl, q⟩
  exact ⟨a, xs, rfl, hs, by rw [law_true xs hl]; rfl, q⟩
end Vx
open PySem PySem.W PyProof.Rows
set_option maxRecDepth 100000 in
set_option maxHeartbeats 0 in
theorem PySem.Challenge.cw_thaumatrope_k45_squares_quantized_holds : PySem.Challenge.rw_thaumatrope_k45_squares_quantized.Holds := by
  w_on; o_law; k_head; (case hw => w_witness2)
  k_fill
  refine Vx.walkG (l := PySem.Challenge.rw_thaumatrope_k45_squares_quantized) (n := 63) (k := 4) (x := "script") rfl (by decide) rfl ⟨rfl, by decide, by decide⟩ (fun w h Y => PySem.W.kIn_of Y) ?F
  case F =>
    intro w mg fa h KX G hmg
    refine' Vx.all_mk KX G hmg ?vOutOfRange ?a0 ?l0 ?c0 ?k0 ?a1 ?l1 ?c1 ?k1 ?a2 ?l2 ?c2 ?k2 ?a3 ?l3 ?c3 ?k3 ?a4 ?l4 ?c4 ?k4 ?kd4_0 ?a5 ?l5 ?c5 ?k5 ?a6 ?l6 ?c6 ?k6 ?a7 ?l7 ?c7 ?k7 ?a8 ?l8 ?c8 ?k8 ?a9 ?l9 ?c9 ?k9 ?a10 ?l10 ?c10 ?k10 ?z0 ?z1 ?z2 ?z3 ?z4 ?z5 ?z6 ?z7 ?z8 ?z9 ?z10 ?exOutOfRange ?ekOutOfRange ?ebOutOfRange ?etOutOfRange ?eiOutOfRangeOutOfRange ?esOutOfRangeOutOfRange
    (case vOutOfRange => k_is)
    (case a0 => k_is)
    (case l0 => k_is)
    (case c0 => k_is)
    (case k0 => k_is)
    (case a1 => k_is)
    (case l1 => k_is)
    (case c1 => k_is)
    (case k1 => k_is)
    (case a2 => k_is)
    (case l2 => k_is)
    (case c2 => k_is)
    (case k2 => k_is)
    (case a3 => k_is)
    (case l3 => k_is)
    (case c3 => k_is)
    (case k3 => k_is)
    (case a4 => k_is)
    (case l4 => k_is)
    (case c4 => k_is)
    (case k4 => k_is)
    (case kd4_0 => k_is)
    (case a5 => k_is)
    (case l5 => k_is)
    (case c5 => k_is)
    (case k5 => k_is)
    (case a6 => k_is)
    (case l6 => k_is)
    (case c6 => k_is)
    (case k6 => k_is)
    (case a7 => k_is)
    (case l7 => k_is)
    (case c7 => k_is)
    (case k7 => k_is)
    (case a8 => k_is)
    (case l8 => k_is)
    (case c8 => k_is)
    (case k8 => k_is)
    (case a9 => k_is)
    (case l9 => k_is)
    (case c9 => k_is)
    (case k9 => k_is)
    (case a10 => k_is)
    (case l10 => k_is)
    (case c10 => k_is)
    (case k10 => k_is)
    (case z0 => k_is)
    (case z1 => k_is)
    (case z2 => k_is)
    (case z3 => k_is)
    (case z4 => k_is)
    (case z5 => k_is)
    (case z6 => k_is)
    (case z7 => k_is)
    (case z8 => k_is)
    (case z9 => k_is)
    (case z10 => k_is)
    (case exOutOfRange => k_exc)
    (case ekOutOfRange => k_is)
    (case ebOutOfRange => k_is)
    (case etOutOfRange => k_is)
    (case eiOutOfRangeOutOfRange => k_is)
    (case esOutOfRangeOutOfRange => first | rfl | k_is)
