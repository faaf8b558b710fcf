import PyProof.Rows.All
import Wide.All
import OpenK.AllK
import Wide.FinOn
import HandS.ForMost
import HandS.Codes
import HandS.Steps
import HandS.IsInst
import HandS.Property
import HandS.Wide
import HandS.WideBits
import HandS.Exc
import HandS.Defaults
import HandS.ExcOwn
import HandS.TryOnly
import HandS.WordsExc
import HandS.ExcIs
import HandS.MakeKwOnly
import HandS.RaiseMore
import HandS.Style
import HandS.Zip
import HandS.Iter
import PySem.Challenge.RW_thaumatrope_k26_levels_have_shapes
set_option Elab.async false
set_option linter.all false
set_option maxRecDepth 100000
set_option maxHeartbeats 8000000
namespace Vx
open PySem PySem.Spec PyProof.Rows L2

/-! ### heaps -/
def SameX (m : Addr) (H H' : Hp) : Prop := ∀ b o, H b = some o → b ≠ m → H' b = some o
theorem gen_new {H H' : Hp} {p : Addr} {o : HO} (n : H p = none) (h : upd H p o = H') : Same H H' ∧ H' p = some o := by
  subst h
  exact ⟨fun b u e => by rw [upd_ne (ne_of_none e n)]; exact e, upd_same⟩
theorem gen_mut {H H' : Hp} {m : Addr} {o : HO} (h : upd H m o = H') : SameX m H H' ∧ H' m = some o := by
  subst h
  exact ⟨fun b u e n => by rw [upd_ne n]; exact e, upd_same⟩
theorem same_mut {H0 H H' : Hp} {m : Addr} (B : Same H0 H) (x : SameX m H H') (f : H0 m = none) : Same H0 H' :=
  fun b o e => x b o (B b o e) (ne_of_none e f)
theorem map_get {xs : List Int} {i : Nat} {x : V} (h : (xs.map V.int)[i]? = some x) : ∃ o, xs[i]? = some o ∧ x = .int o := by
  rw [List.getElem?_map] at h
  cases e : xs[i]? with
  | none => rw [e] at h; cases h
  | some z => rw [e] at h; exact ⟨z, rfl, (Option.some.inj h).symm⟩
theorem get_len {α : Type} {xs : List α} {i : Nat} {x : α} (h : xs[i]? = some x) : i < xs.length := (List.getElem?_eq_some_iff.mp h).1
theorem eq_int {Q : VK} {H : Hp} {a b : Int} (h : Q (.int a) H) (e : a = b) : Q (.int b) H := e ▸ h
theorem eq_bl {Q : VK} {H : Hp} {a b : Bool} (h : Q (.bl a) H) (e : a = b) : Q (.bl b) H := e ▸ h
theorem small {n : Nat} (h : n ≤ 1000000) : n < sizeLine := Nat.lt_of_le_of_lt h (by decide)
theorem smallE {n : Nat} (h : n ≤ 1000000) : n ≤ sizeLine := Nat.le_of_lt (small h)
theorem snoc_int {xs : List Int} {y : Int} {H : Hp} {p : Addr} (h : H p = some (.lst (xs.map V.int ++ [V.int y]))) : H p = some (.lst ((xs ++ [y]).map V.int)) := by
  rw [List.map_append]; exact h
theorem cat_int {xs ys : List Int} {H : Hp} {p : Addr} (h : H p = some (.lst (xs.map V.int ++ ys.map V.int))) : H p = some (.lst ((xs ++ ys).map V.int)) := by
  rw [List.map_append]; exact h
theorem cast_lst {xs ys : List Int} {H : Hp} {p : Addr} (h : H p = some (.lst (xs.map V.int))) (e : xs = ys) : H p = some (.lst (ys.map V.int)) := e ▸ h

/-! ### tests -/
theorem dT {p : Prop} [Decidable p] (h : decide p = true) : p := of_decide_eq_true h
theorem dF {p : Prop} [Decidable p] (h : ¬ decide p = true) : ¬ p := fun x => h (decide_eq_true x)
theorem iteD {p A B : Prop} [Decidable p] (h1 : p → A) (h2 : ¬ p → B) : if decide p = true then A else B := by
  by_cases h : p
  · rw [if_pos (decide_eq_true h)]; exact h1 h
  · rw [if_neg (fun x => h (of_decide_eq_true x))]; exact h2 h
theorem iteN {p A B : Prop} [Decidable p] (h1 : ¬ p → A) (h2 : p → B) : if (!decide p) = true then A else B := by
  by_cases h : p
  · rw [decide_eq_true h]; exact iteF (h2 h)
  · rw [decide_eq_false h]; exact iteT (h1 h)
theorem iteB {b : Bool} {A B : Prop} (h1 : b = true → A) (h2 : b = false → B) : if b = true then A else B := by
  cases b with
  | true => exact iteT (h1 rfl)
  | false => exact iteF (h2 rfl)
theorem iteBN {b : Bool} {A B : Prop} (h1 : b = false → A) (h2 : b = true → B) : if (!b) = true then A else B := by
  cases b with
  | true => exact iteF (h2 rfl)
  | false => exact iteT (h1 rfl)
theorem iteDT {p A B : Prop} [Decidable p] (h : p) (k : A) : if decide p = true then A else B := by
  rw [if_pos (decide_eq_true h)]; exact k
theorem iteDF {p A B : Prop} [Decidable p] (h : ¬ p) (k : B) : if decide p = true then A else B := by
  rw [if_neg (fun x => h (of_decide_eq_true x))]; exact k
theorem iteNT {p A B : Prop} [Decidable p] (h : ¬ p) (k : A) : if (!decide p) = true then A else B := iteN (fun _ => k) (fun x => (h x).elim)
theorem iteNF {p A B : Prop} [Decidable p] (h : p) (k : B) : if (!decide p) = true then A else B := iteN (fun x => (x h).elim) (fun _ => k)

/-! ### equality of lists of ints -/
theorem eqvAll_ints : ∀ xs ys : List Int, PyData.eqvAll (xs.map PyData.int) (ys.map PyData.int) = decide (xs = ys)
  | [], [] => by simp [PyData.eqvAll]
  | [], y :: ys => by simp [PyData.eqvAll]
  | x :: xs, [] => by simp [PyData.eqvAll]
  | x :: xs, y :: ys => by
    have ih := eqvAll_ints xs ys
    simp only [List.map_cons, PyData.eqvAll, PyData.eqv, ih]
    by_cases h : x = y <;> by_cases h2 : xs = ys <;> simp [h, h2]
end Vx

namespace Vx
open PySem PySem.Spec PyProof.Rows L2
section
variable {X : Cx}
def rEqLi (K : PySem.W.Frag) : R2 := fun x y H Q => ∃ (a b : Addr) (xs ys : List Int), x = .ref a ∧ y = .ref b ∧ SqL K H a (xs.map V.int) ∧ SqL K H b (ys.map V.int) ∧ Q (.bl (decide (xs = ys))) H
def rNeLi (K : PySem.W.Frag) : R2 := fun x y H Q => ∃ (a b : Addr) (xs ys : List Int), x = .ref a ∧ y = .ref b ∧ SqL K H a (xs.map V.int) ∧ SqL K H b (ys.map V.int) ∧ Q (.bl (!decide (xs = ys))) H
theorem dpAll_ints {K : PySem.W.Frag} {H : Hp} : ∀ xs : List Int, DpAll K H (xs.map V.int) (xs.map PyData.int)
  | [] => .nil
  | x :: xs => .cons (.int x) (dpAll_ints xs)
theorem dp_ints {K : PySem.W.Frag} {H : Hp} {a : Addr} {xs : List Int} (h : SqL K H a (xs.map V.int)) : Dp K H (.ref a) (.list (xs.map PyData.int)) := .lst h (dpAll_ints xs)
theorem canLay_ints : ∀ xs : List Int, PyData.canLayAll0 (xs.map PyData.int) = true
  | [] => by simp [PyData.canLayAll0]
  | x :: xs => by simp [PyData.canLayAll0, PyData.canLay0, canLay_ints xs]
theorem depth_ints : ∀ xs : List Int, PyData.depthAll (xs.map PyData.int) = 0
  | [] => by simp [PyData.depthAll]
  | x :: xs => by simp [PyData.depthAll, PyData.depth, depth_ints xs]
theorem shaped_ints (xs : List Int) : SeqAt.shaped (.list (xs.map PyData.int)) = true := by
  unfold SeqAt.shaped
  simp [PyData.canLay0, canLay_ints, PyData.depth, depth_ints]
theorem eqv_ints (xs ys : List Int) : PyData.eqv (.list (xs.map PyData.int)) (.list (ys.map PyData.int)) = decide (xs = ys) := by
  simp only [PyData.eqv]
  exact eqvAll_ints xs ys
theorem op_eqLi (hu : X.A.units + 64 < cLine) : OpR X (compareOp .Eq) (rEqLi X.K) := by
  intro pins s σ H x y v u Q I rx ry h
  obtain ⟨a, b, xs, ys, rfl, rfl, h1, h2, q⟩ := h
  exact op_eqD hu pins s σ H _ _ v u Q I rx ry ⟨_, _, dp_ints h1, dp_ints h2, shaped_ints xs, shaped_ints ys, by rw [eqv_ints]; exact q⟩
theorem op_neLi (hu : X.A.units + 64 < cLine) : OpR X (compareOp .NotEq) (rNeLi X.K) := by
  intro pins s σ H x y v u Q I rx ry h
  obtain ⟨a, b, xs, ys, rfl, rfl, h1, h2, q⟩ := h
  exact op_neD hu pins s σ H _ _ v u Q I rx ry ⟨_, _, dp_ints h1, dp_ints h2, shaped_ints xs, shaped_ints ys, by rw [eqv_ints]; exact q⟩

/-! ### items, slices, repetition, comprehensions of ints -/
def itI (xs : List Int) (i : Int) : Int := (atI xs i).getD 0
theorem atI_int {xs : List Int} {i : Int} (h : -(xs.length : Int) ≤ i ∧ i < xs.length) : atI (xs.map V.int) i = some (.int (itI xs i)) := by
  unfold itI atI
  rw [List.length_map]
  have hk : ∃ j, ixN xs.length i = some j ∧ j < xs.length := by
    unfold ixN
    by_cases h0 : 0 ≤ i
    · refine ⟨i.toNat, ?_, by omega⟩
      rw [if_pos h0, if_pos h.2]
    · refine ⟨(i + xs.length).toNat, ?_, by omega⟩
      rw [if_neg h0, if_pos h.1]
  obtain ⟨j, e, hj⟩ := hk
  rw [e]
  show (xs.map V.int)[j]? = some (V.int ((xs[j]?).getD 0))
  rw [List.getElem?_map, List.getElem?_eq_getElem hj] <;> rfl
def cutI (xs : List Int) (lo hi : Option Int) : List Int := (xs.drop (HT.sIx xs.length 0 lo)).take (HT.sIx xs.length xs.length hi - HT.sIx xs.length 0 lo)
theorem cut_int {xs : List Int} {lo hi : Option Int} {H : Hp} {p : Addr} (h : H p = some (.lst (cutV (xs.map V.int) lo hi))) : H p = some (.lst ((cutI xs lo hi).map V.int)) := by
  rw [h]
  unfold cutV cutI
  rw [List.length_map, List.map_take, List.map_drop]
def rep (xs : List Int) (k : Int) : List Int := (List.replicate k.toNat xs).flatten
theorem rep_int {xs : List Int} {k : Int} {H : Hp} {p : Addr} (h : H p = some (.lst (List.replicate k.toNat (xs.map V.int)).flatten)) : H p = some (.lst ((rep xs k).map V.int)) := by
  rw [h]
  unfold rep
  rw [List.map_flatten, List.map_replicate]
theorem divW_lit {i j : Int} (h : 0 < j) (h2 : j.natAbs.log2 < 9000) : CDivW i j := ⟨h, h2⟩
theorem divW_small {i j : Int} (h : 0 < j) (h2 : j < 2 ^ 128) : CDivW i j := wide_div h (show j.natAbs < 2 ^ 128 by omega) (by decide) (by decide)
theorem comp_list {xs : List Int} {i : Nat} {x y : Int} {f : Int → Int} {H : Hp} {D : Addr} (hi : xs[i]? = some x) (h : H D = some (.lst (((xs.take i).map f).map V.int ++ [V.int y]))) (e : f x = y) : H D = some (.lst (((xs.take (i + 1)).map f).map V.int)) := by
  rw [h, ← e, List.take_succ, hi, List.map_append, List.map_append] <;> rfl
theorem comp_done {xs : List Int} {f : Int → Int} {H : Hp} {D : Addr} (h : H D = some (.lst (((xs.take (xs.map V.int).length).map f).map V.int))) : H D = some (.lst ((xs.map f).map V.int)) := by
  rw [List.length_map, List.take_length] at h
  exact h
theorem comp_range {i : Nat} {y : Int} {f : Nat → Int} {H : Hp} {D : Addr} (h : H D = some (.lst (((List.range i).map f).map V.int ++ [V.int y]))) (e : f i = y) : H D = some (.lst (((List.range (i + 1)).map f).map V.int)) := by
  rw [h, ← e, List.range_succ, List.map_append, List.map_append] <;> rfl
theorem iteBT {b : Bool} {A B : Prop} (h : b = true) (k : A) : if b = true then A else B := by rw [if_pos h]; exact k
theorem iteBF {b : Bool} {A B : Prop} (h : b = false) (k : B) : if b = true then A else B := by rw [if_neg (by rw [h]; decide)]; exact k
theorem take_succ_get {α : Type} {xs : List α} {i : Nat} {x : α} (hi : xs[i]? = some x) : xs.take (i + 1) = xs.take i ++ [x] := by rw [List.take_succ, hi] <;> rfl
end

/-! ### defs of the module, as callers see them -/
section
variable {P : Program} {w : World} {K : PySem.W.Frag} {mg : Str → Option Value} {base : Heap}
structure DefIn (K : PySem.W.Frag) (mg : Str → Option Value) (x : Str) (st : Stmt) (ps : List Str) : Prop where
  ex : ∃ (f : Addr) (fd : FuncData), Fun K x x st f fd ∧ mg x = some (.ref f) ∧ Binds K fd ps []
structure Cal (P : Program) (w : World) (K : PySem.W.Frag) (mg : Str → Option Value) (base : Heap) (k : Nat) (x : Str) (sp : Sp) : Prop where
  ex : ∃ (f : Addr) (fd : FuncData) (ps : List Str), FnOk P w K mg base CX0 k f fd ps sp ∧ mg x = some (.ref f) ∧ PySem.W.keepIn K (.ref f) = true ∧ Binds K fd ps []
theorem DefIn.ok {x : Str} {st : Stmt} {N ps : List Str} {k : Nat} {sp : Sp} (D : DefIn K mg x st ps) (S : FnScope N ps (defScope st)) (len : ∀ vs H Q E, sp vs H Q E → vs.length = ps.length)
    (hbody : ∀ (f : Addr) (cdv : Value) (A : Around) (outer : List Env) (s : Shared) (H : Hp) (vs : List V) (Q : VK) (E : XK), Room k (A.deeper (envOfC x (defScope st) s.heap.objs.size f cdv)) → sp vs H Q E →
      ∃ t, PSs (cxOf CX0 P w K mg base N x (defScope st) f cdv A outer s H E).nox (defBody st) t ∧ t { nx := fun _ H' => Q .non H', rt := Q } (start N vs) H) : Cal P w K mg base (k + 1) x sp := by
  obtain ⟨f, fd, F, hm, b⟩ := D.ex
  exact ⟨f, fd, ps, F.ok S len (fun cdv A outer s H vs Q E hr h => hbody f cdv A outer s H vs Q E hr h), hm, F.kp, b⟩
end
section
variable {X : Cx} {k j : Nat} {x : Str} {sp : Sp} {p pos : Pos} {e : Expr} {es : List Expr} {t : TA}
theorem vx_call (c : Cal X.prog X.w X.K X.mg X.base k x sp) (hr : Room j X.A) (hk : k ≤ j) (hg : Gl X x) (ha : PA X (e :: es) t)
    (hdb : (x == ("__debug__" : Str)) = false := by decide) (he : starEach (e :: es) X.env = (false, eval e X.env) :: starEach es X.env := by rfl) (hpl : (backTo pos (starEach es X.env)).any (·.1) = false := by rfl) :
    PE X (.Call (.Name x p) (e :: es) [] pos) (tCall sp [] E0 t) := by
  obtain ⟨f, fd, ps, F, hm, kp, b⟩ := c.ex
  exact pe_call F (hr.mono hk) hg hm kp b .nil pass0 ha hdb he hpl
end
end Vx

namespace Vx
open PySem PySem.Spec PyProof.Rows L2
section
variable {σ : L2.St} {H : Hp} {ta tb : TE} {x y z : V} {t : TT}
theorem vv_and {a b : Bool} (h1 : Val ta σ H (.bl a)) (h2 : Val tb σ H (.bl b)) : Val (tAndV ta tb) σ H (.bl (a && b)) := fun Q q => h1 _ ⟨a, rfl, by
  cases a with
  | true => exact iteT (h2 Q q)
  | false => exact iteF q⟩
theorem vv_or {a b : Bool} (h1 : Val ta σ H (.bl a)) (h2 : Val tb σ H (.bl b)) : Val (tOrV ta tb) σ H (.bl (a || b)) := fun Q q => h1 _ ⟨a, rfl, by
  cases a with
  | true => exact iteT q
  | false => exact iteF (h2 Q q)⟩
theorem vv_not {a : Bool} (h1 : Val ta σ H (.bl a)) : Val (tNotV ta) σ H (.bl (!a)) := fun Q q => h1 _ ⟨a, rfl, q⟩
theorem vv_un {r : V → Hp → VK → Prop} (ha : Val ta σ H x) (hr : ∀ Q : VK, Q z H → r x H Q) : Val (tUn r ta) σ H z := fun Q q => ha _ (hr Q q)
theorem vv_cmp {p : Int → Int → Bool} (ha : Val ta σ H x) (hb : Val tb σ H y) (hr : ∀ Q : VK, Q z H → ∃ i j, x = .int i ∧ y = .int j ∧ Q (.bl (p i j)) H) : Val (tCmp p ta tb) σ H z := fun Q q => ha _ (hb _ (hr Q q))
theorem vv_call1 {r : List V → Hp → VK → Prop} (ha : Val ta σ H x) (hr : ∀ Q : VK, Q z H → r [x] H Q) : Val (tCB r (tCons ta tNil)) σ H z := fun Q q => ha _ (hr Q q)
theorem vt_cmp {b : Bool} (h : Val ta σ H (.bl b)) : Ans (tB ta) σ H b := fun Q q => h _ ⟨b, rfl, q⟩
theorem vt_val {b : Bool} (h : Val ta σ H (.bl b)) : Ans (tB ta) σ H b := fun Q q => h _ ⟨b, rfl, q⟩
theorem vt_int {i : Int} {K : PySem.W.Frag} (h : Val ta σ H (.int i)) : Ans (fun σ H Q => ta σ H fun x H' => ∃ k, TruV K x H' k ∧ Q k H') σ H (i != 0) := fun Q q => h _ ⟨_, rfl, q⟩
theorem vv_if {p : Prop} [Decidable p] {a b : Int} (ht : Ans t σ H (decide p)) (hx : Val ta σ H (.int a)) (hy : Val tb σ H (.int b)) : Val (tIf t ta tb) σ H (.int (if p then a else b)) := fun Q q => ht _ (by
  by_cases h : p
  · rw [if_pos h] at q; exact iteDT h (hx Q q)
  · rw [if_neg h] at q; exact iteDF h (hy Q q))
theorem vv_ifb {c : Bool} {a b : Int} (ht : Ans t σ H c) (hx : Val ta σ H (.int a)) (hy : Val tb σ H (.int b)) : Val (tIf t ta tb) σ H (.int (if c = true then a else b)) := fun Q q => ht _ (by
  cases c with
  | true => exact iteT (hx Q q)
  | false => exact iteF (hy Q q))
end
end Vx

namespace Vx
open PySem PySem.Spec PyProof.Rows L2
def rLenLi (K : PySem.W.Frag) : List V → Hp → VK → Prop := fun xs H Q => ∃ (p : Addr) (ns : List Int), xs = [.ref p] ∧ SqL K H p (ns.map V.int) ∧ Q (.int (ns.length : Int)) H
theorem call_lenLi {X : Cx} : CallR X (.builtin "len") (rLenLi X.K) := by
  intro pins s σ H xs us Q I r h
  obtain ⟨p, ns, rfl, hs, q⟩ := h
  exact call_len_seq pins s σ H _ us Q I r ⟨p, _, rfl, Or.inl hs, by rw [List.length_map]; exact q⟩
end Vx

namespace Vx
open PySem PySem.Spec PyProof.Rows L2
section
variable {X : Cx} {K : PySem.W.Frag}
theorem ix_listK (hK : X.K = K := by rfl) : IxR X (rIxL K) := hK ▸ ix_list
theorem sl_listK (hK : X.K = K := by rfl) : SlR X (rSlL K) := hK ▸ sl_list
theorem call_lenLiK (hK : X.K = K := by rfl) : CallR X (.builtin "len") (rLenLi K) := hK ▸ call_lenLi
theorem op_eqLiK (hu : X.A.units + 64 < cLine) (hK : X.K = K := by rfl) : OpR X (compareOp .Eq) (rEqLi K) := hK ▸ op_eqLi hu
theorem op_neLiK (hu : X.A.units + 64 < cLine) (hK : X.K = K := by rfl) : OpR X (compareOp .NotEq) (rNeLi K) := hK ▸ op_neLi hu
theorem pi_listK {tg l : Expr} {tl : TE} (hl : PE X l tl) (hK : X.K = K := by rfl) : PI X tg l (iList K tl) := hK ▸ pi_list hl
theorem cr_sumK (hc : X.calm = true) (hK : X.K = K := by rfl) : CallR X (.builtin "sum") (rSum K) := hK ▸ cr_sum hc
theorem cr_maxK (hc : X.calm = true) (hK : X.K = K := by rfl) : CallR X (.builtin "max") (rMax K) := hK ▸ cr_max hc
theorem cr_minK (hc : X.calm = true) (hK : X.K = K := by rfl) : CallR X (.builtin "min") (rMin K) := hK ▸ cr_min hc
end
end Vx

namespace Vx
open PySem PySem.Spec PyProof.Rows L2
theorem tyes_go {σ : L2.St} {H : Hp} {f g : Hp → Prop} (h : f H) : tYes σ H (fun b H3 => if b = true then f H3 else g H3) := by
  show if true = true then f H else g H
  exact iteT h
end Vx

/-! # second part: data of any depth, the stable heap G, the owned addresses O -/
namespace Vx
open PySem PySem.Spec PyProof.Rows L2
mutual
inductive Rp (H : Hp) : V → PyData → Prop
  | non : Rp H .non .none
  | bl (b : Bool) : Rp H (.bl b) (.bool b)
  | int (i : Int) : Rp H (.int i) (.int i)
  | str (x : Str) : Rp H (.str x) (.str x)
  | lst {a : Addr} {xs : List V} {ds : List PyData} : H a = some (.lst xs) → RpAll H xs ds → Rp H (.ref a) (.list ds)
  | tup {a : Addr} {xs : List V} {ds : List PyData} : H a = some (.tup xs) → RpAll H xs ds → Rp H (.ref a) (.tuple ds)
inductive RpAll (H : Hp) : List V → List PyData → Prop
  | nil : RpAll H [] []
  | cons {v : V} {vs : List V} {d : PyData} {ds : List PyData} : Rp H v d → RpAll H vs ds → RpAll H (v :: vs) (d :: ds)
end
mutual
theorem Rp.mono {H H' : Hp} (e : Same H H') : ∀ {v : V} {d : PyData}, Rp H v d → Rp H' v d
  | _, _, .non => .non
  | _, _, .bl b => .bl b
  | _, _, .int i => .int i
  | _, _, .str x => .str x
  | _, _, .lst h r => .lst (e _ _ h) (RpAll.mono e r)
  | _, _, .tup h r => .tup (e _ _ h) (RpAll.mono e r)
theorem RpAll.mono {H H' : Hp} (e : Same H H') : ∀ {vs : List V} {ds : List PyData}, RpAll H vs ds → RpAll H' vs ds
  | _, _, .nil => .nil
  | _, _, .cons a b => .cons (Rp.mono e a) (RpAll.mono e b)
end
mutual
theorem Rp.dp {K : PySem.W.Frag} {H : Hp} : ∀ {v : V} {d : PyData}, Rp H v d → Dp K H v d
  | _, _, .non => .non
  | _, _, .bl b => .bl b
  | _, _, .int i => .int i
  | _, _, .str x => .str x
  | _, _, .lst h r => .lst (SqL.of h) (RpAll.dp r)
  | _, _, .tup h r => .tup (SqT.of h) (RpAll.dp r)
theorem RpAll.dp {K : PySem.W.Frag} {H : Hp} : ∀ {vs : List V} {ds : List PyData}, RpAll H vs ds → DpAll K H vs ds
  | _, _, .nil => .nil
  | _, _, .cons a b => .cons (Rp.dp a) (RpAll.dp b)
end
theorem RpAll.append {H : Hp} : ∀ {xs ys : List V} {ds es : List PyData}, RpAll H xs ds → RpAll H ys es → RpAll H (xs ++ ys) (ds ++ es)
  | _, _, _, _, .nil, s => s
  | _, _, _, _, .cons r t, s => .cons r (RpAll.append t s)
theorem RpAll.ints {H : Hp} : ∀ xs : List Int, RpAll H (xs.map V.int) (xs.map PyData.int)
  | [] => .nil
  | x :: xs => .cons (.int x) (RpAll.ints xs)
theorem RpAll.bls {H : Hp} : ∀ xs : List Bool, RpAll H (xs.map V.bl) (xs.map PyData.bool)
  | [] => .nil
  | x :: xs => .cons (.bl x) (RpAll.bls xs)
theorem RpAll.one {H : Hp} {v : V} {d : PyData} (h : Rp H v d) : RpAll H [v] [d] := .cons h .nil
theorem RpAll.len {H : Hp} : ∀ {vs : List V} {ds : List PyData}, RpAll H vs ds → vs.length = ds.length
  | _, _, .nil => rfl
  | _, _, .cons _ t => by rw [List.length_cons, List.length_cons, RpAll.len t]
theorem RpAll.at {H : Hp} : ∀ {vs : List V} {ds : List PyData} {i : Nat} {v : V}, RpAll H vs ds → vs[i]? = some v → ∃ d, ds[i]? = some d ∧ Rp H v d
  | _, _, _, _, .nil, h => by simp at h
  | _, _, 0, _, .cons r _, h => by
    simp at h
    subst h
    exact ⟨_, rfl, r⟩
  | _, _, i + 1, _, .cons _ t, h => by
    obtain ⟨d, h1, h2⟩ := RpAll.at (i := i) t (by simpa using h)
    exact ⟨d, by simpa using h1, h2⟩
theorem RpAll.at' {H : Hp} : ∀ {vs : List V} {ds : List PyData} {i : Nat} {d : PyData}, RpAll H vs ds → ds[i]? = some d → ∃ v, vs[i]? = some v ∧ Rp H v d
  | _, _, _, _, .nil, h => by simp at h
  | _, _, 0, _, .cons r _, h => by
    simp at h
    subst h
    exact ⟨_, rfl, r⟩
  | _, _, i + 1, _, .cons _ t, h => by
    obtain ⟨v, h1, h2⟩ := RpAll.at' (i := i) t (by simpa using h)
    exact ⟨v, by simpa using h1, h2⟩
theorem RpAll.take {H : Hp} : ∀ (n : Nat) {vs : List V} {ds : List PyData}, RpAll H vs ds → RpAll H (vs.take n) (ds.take n)
  | 0, _, _, _ => by simpa using RpAll.nil
  | n + 1, _, _, .nil => by simpa using RpAll.nil
  | n + 1, _, _, .cons r t => .cons r (RpAll.take n t)
theorem RpAll.drop {H : Hp} : ∀ (n : Nat) {vs : List V} {ds : List PyData}, RpAll H vs ds → RpAll H (vs.drop n) (ds.drop n)
  | 0, _, _, r => r
  | n + 1, _, _, .nil => by simpa using RpAll.nil
  | n + 1, _, _, .cons r t => RpAll.drop n t
theorem RpAll.set {H : Hp} {v : V} {d : PyData} (h : Rp H v d) : ∀ (n : Nat) {vs : List V} {ds : List PyData}, RpAll H vs ds → RpAll H (vs.set n v) (ds.set n d)
  | _, _, _, .nil => .nil
  | 0, _, _, .cons _ t => .cons h t
  | n + 1, _, _, .cons r t => .cons r (RpAll.set h n t)
theorem RpAll.rep {H : Hp} {vs : List V} {ds : List PyData} (h : RpAll H vs ds) : ∀ n : Nat, RpAll H (List.replicate n vs).flatten (List.replicate n ds).flatten
  | 0 => by simpa using RpAll.nil
  | n + 1 => by
    rw [List.replicate_succ, List.flatten_cons, List.replicate_succ, List.flatten_cons]
    exact RpAll.append h (RpAll.rep h n)
theorem RpAll.get {α : Type} {f : α → PyData} {H : Hp} {vs : List V} {xs : List α} {i : Nat} {v : V} (r : RpAll H vs (xs.map f)) (h : vs[i]? = some v) : ∃ x, xs[i]? = some x ∧ Rp H v (f x) := by
  obtain ⟨d, h1, h2⟩ := RpAll.at r h
  rw [List.getElem?_map] at h1
  cases e : xs[i]? with
  | none => rw [e] at h1; cases h1
  | some x =>
    rw [e] at h1
    have : f x = d := Option.some.inj h1
    exact ⟨x, rfl, this ▸ h2⟩
/-- the item at an index, data -/
theorem RpAll.ix {α : Type} {f : α → PyData} {H : Hp} {vs : List V} {xs : List α} {k : Int} (r : RpAll H vs (xs.map f)) (h : -(xs.length : Int) ≤ k ∧ k < xs.length) : ∃ v x, atI vs k = some v ∧ atI xs k = some x ∧ Rp H v (f x) := by
  have hl : vs.length = xs.length := by rw [r.len, List.length_map]
  have hk : ∃ j, ixN xs.length k = some j ∧ j < xs.length := by
    unfold ixN
    by_cases h0 : 0 ≤ k
    · refine ⟨k.toNat, ?_, by omega⟩
      rw [if_pos h0, if_pos h.2]
    · refine ⟨(k + xs.length).toNat, ?_, by omega⟩
      rw [if_neg h0, if_pos h.1]
  obtain ⟨j, e, hj⟩ := hk
  have hx := List.getElem?_eq_getElem hj
  obtain ⟨v, h1, h2⟩ := RpAll.at' (i := j) (d := f xs[j]) r (by rw [List.getElem?_map, hx] <;> rfl)
  refine ⟨v, xs[j], ?_, ?_, h2⟩
  · unfold atI
    rw [hl, e]
    exact h1
  · unfold atI
    rw [e]
    exact hx

/-! ### types -/
def encL {α : Type} (f : α → PyData) (xs : List α) : PyData := .list (xs.map f)
def encT2 {α β : Type} (f : α → PyData) (g : β → PyData) (p : α × β) : PyData := .tuple [f p.1, g p.2]
def encT3 {α β γ : Type} (f : α → PyData) (g : β → PyData) (h : γ → PyData) (p : α × β × γ) : PyData := .tuple [f p.1, g p.2.1, h p.2.2]
def encT4 {α β γ δ : Type} (f : α → PyData) (g : β → PyData) (h : γ → PyData) (i : δ → PyData) (p : α × β × γ × δ) : PyData := .tuple [f p.1, g p.2.1, h p.2.2.1, i p.2.2.2]
structure EncOk {α : Type} [DecidableEq α] (n : Nat) (f : α → PyData) : Prop where
  lay : ∀ x, PyData.canLay0 (f x) = true
  dep : ∀ x, PyData.depth (f x) ≤ n
  eqv : ∀ x y, PyData.eqv (f x) (f y) = decide (x = y)
theorem encOk_int : EncOk 0 PyData.int := ⟨fun _ => by simp [PyData.canLay0], fun _ => by simp [PyData.depth], fun x y => by simp [PyData.eqv]; by_cases h : x = y <;> simp [h]⟩
theorem encOk_bool : EncOk 0 PyData.bool := ⟨fun _ => by simp [PyData.canLay0], fun _ => by simp [PyData.depth], fun x y => by cases x <;> cases y <;> simp [PyData.eqv]⟩
section
variable {α β γ δ : Type} [DecidableEq α] [DecidableEq β] [DecidableEq γ] [DecidableEq δ] {n m l o : Nat} {f : α → PyData} {g : β → PyData} {h : γ → PyData} {i : δ → PyData}
theorem lay_map (ok : EncOk n f) : ∀ xs : List α, PyData.canLayAll0 (xs.map f) = true
  | [] => by simp [PyData.canLayAll0]
  | x :: xs => by simp [PyData.canLayAll0, ok.lay x, lay_map ok xs]
theorem dep_map (ok : EncOk n f) : ∀ xs : List α, PyData.depthAll (xs.map f) ≤ n
  | [] => by simp [PyData.depthAll]
  | x :: xs => by
    have h1 := ok.dep x
    have h2 := dep_map ok xs
    simp only [List.map_cons, PyData.depthAll]
    omega
theorem eqv_map (ok : EncOk n f) : ∀ xs ys : List α, PyData.eqvAll (xs.map f) (ys.map f) = decide (xs = ys)
  | [], [] => by simp [PyData.eqvAll]
  | [], y :: ys => by simp [PyData.eqvAll]
  | x :: xs, [] => by simp [PyData.eqvAll]
  | x :: xs, y :: ys => by
    have ih := eqv_map ok xs ys
    simp only [List.map_cons, PyData.eqvAll, ok.eqv, ih]
    by_cases h : x = y <;> by_cases h2 : xs = ys <;> simp [h, h2]
theorem encOk_L (ok : EncOk n f) : EncOk (n + 1) (encL f) := ⟨fun xs => by simp [encL, PyData.canLay0, lay_map ok], fun xs => by
  have := dep_map ok xs
  simp only [encL, PyData.depth]
  omega, fun xs ys => by simp only [encL, PyData.eqv]; exact eqv_map ok xs ys⟩
theorem encOk_T2 (ok : EncOk n f) (ok2 : EncOk m g) : EncOk (max n m + 1) (encT2 f g) := ⟨fun x => by simp [encT2, PyData.canLay0, PyData.canLayAll0, ok.lay, ok2.lay], fun x => by
  have h1 := ok.dep x.1
  have h2 := ok2.dep x.2
  simp only [encT2, PyData.depth, PyData.depthAll]
  omega, fun x y => by
  obtain ⟨a, b⟩ := x
  obtain ⟨c, d⟩ := y
  simp only [encT2, PyData.eqv, PyData.eqvAll, ok.eqv, ok2.eqv, Prod.mk.injEq]
  by_cases h1 : a = c <;> by_cases h2 : b = d <;> simp [h1, h2]⟩
theorem encOk_T3 (ok : EncOk n f) (ok2 : EncOk m g) (ok3 : EncOk l h) : EncOk (max n (max m l) + 1) (encT3 f g h) := ⟨fun x => by simp [encT3, PyData.canLay0, PyData.canLayAll0, ok.lay, ok2.lay, ok3.lay], fun x => by
  have h1 := ok.dep x.1
  have h2 := ok2.dep x.2.1
  have h3 := ok3.dep x.2.2
  simp only [encT3, PyData.depth, PyData.depthAll]
  omega, fun x y => by
  obtain ⟨a, b, e⟩ := x
  obtain ⟨c, d, e'⟩ := y
  simp only [encT3, PyData.eqv, PyData.eqvAll, ok.eqv, ok2.eqv, ok3.eqv, Prod.mk.injEq]
  by_cases h1 : a = c <;> by_cases h2 : b = d <;> by_cases h3 : e = e' <;> simp [h1, h2, h3]⟩
theorem encOk_T4 (ok : EncOk n f) (ok2 : EncOk m g) (ok3 : EncOk l h) (ok4 : EncOk o i) : EncOk (max n (max m (max l o)) + 1) (encT4 f g h i) := ⟨fun x => by simp [encT4, PyData.canLay0, PyData.canLayAll0, ok.lay, ok2.lay, ok3.lay, ok4.lay], fun x => by
  have h1 := ok.dep x.1
  have h2 := ok2.dep x.2.1
  have h3 := ok3.dep x.2.2.1
  have h4 := ok4.dep x.2.2.2
  simp only [encT4, PyData.depth, PyData.depthAll]
  omega, fun x y => by
  obtain ⟨a, b, e, u⟩ := x
  obtain ⟨c, d, e', u'⟩ := y
  simp only [encT4, PyData.eqv, PyData.eqvAll, ok.eqv, ok2.eqv, ok3.eqv, ok4.eqv, Prod.mk.injEq]
  by_cases h1 : a = c <;> by_cases h2 : b = d <;> by_cases h3 : e = e' <;> by_cases h4 : u = u' <;> simp [h1, h2, h3, h4]⟩
end
section
variable {X : Cx} {α : Type} [DecidableEq α] {n : Nat} {f : α → PyData}
def rEqT (f : α → PyData) : R2 := fun x y H Q => ∃ (a b : α), Rp H x (f a) ∧ Rp H y (f b) ∧ Q (.bl (decide (a = b))) H
def rNeT (f : α → PyData) : R2 := fun x y H Q => ∃ (a b : α), Rp H x (f a) ∧ Rp H y (f b) ∧ Q (.bl (!decide (a = b))) H
theorem shaped_of (ok : EncOk n f) (hn : n ≤ 64) (a : α) : SeqAt.shaped (f a) = true := by
  unfold SeqAt.shaped
  have h := ok.dep a
  rw [ok.lay]
  simp
  omega
theorem op_eqT (ok : EncOk n f) (hu : X.A.units + 64 < cLine) (hn : n ≤ 64 := by decide) : OpR X (compareOp .Eq) (rEqT f) := by
  intro pins s σ H x y v u Q I rx ry h
  obtain ⟨a, b, h1, h2, q⟩ := h
  exact op_eqD hu pins s σ H _ _ v u Q I rx ry ⟨_, _, h1.dp, h2.dp, shaped_of ok hn a, shaped_of ok hn b, by rw [ok.eqv]; exact q⟩
theorem op_neT (ok : EncOk n f) (hu : X.A.units + 64 < cLine) (hn : n ≤ 64 := by decide) : OpR X (compareOp .NotEq) (rNeT f) := by
  intro pins s σ H x y v u Q I rx ry h
  obtain ⟨a, b, h1, h2, q⟩ := h
  exact op_neD hu pins s σ H _ _ v u Q I rx ry ⟨_, _, h1.dp, h2.dp, shaped_of ok hn a, shaped_of ok hn b, by rw [ok.eqv]; exact q⟩
end
section
variable {H : Hp} {v : V} {α β γ δ : Type} {f : α → PyData} {g : β → PyData} {h : γ → PyData} {i : δ → PyData}
theorem rp_int {x : Int} (r : Rp H v (.int x)) : v = .int x := by cases r; rfl
theorem rp_bool {x : Bool} (r : Rp H v (.bool x)) : v = .bl x := by cases r; rfl
theorem rp_str {x : Str} (r : Rp H v (.str x)) : v = .str x := by cases r; rfl
theorem rp_list {xs : List α} (r : Rp H v (encL f xs)) : ∃ a vs, v = .ref a ∧ H a = some (.lst vs) ∧ RpAll H vs (xs.map f) := by
  unfold encL at r
  cases r with
  | lst h1 h2 => exact ⟨_, _, rfl, h1, h2⟩
theorem rpAll_ints : ∀ {vs : List V} {xs : List Int}, RpAll H vs (xs.map PyData.int) → vs = xs.map V.int
  | _, [], .nil => rfl
  | _, x :: xs, .cons r t => by rw [rp_int r, rpAll_ints t] <;> rfl
theorem rp_ints {xs : List Int} (r : Rp H v (encL PyData.int xs)) : ∃ a, v = .ref a ∧ H a = some (.lst (xs.map V.int)) := by
  obtain ⟨a, vs, e, h1, h2⟩ := rp_list r
  rw [rpAll_ints h2] at h1
  exact ⟨a, e, h1⟩
theorem rp_tup2 {x : α × β} (r : Rp H v (encT2 f g x)) : ∃ a v1 v2, v = .ref a ∧ H a = some (.tup [v1, v2]) ∧ Rp H v1 (f x.1) ∧ Rp H v2 (g x.2) := by
  unfold encT2 at r
  cases r with
  | tup h1 h2 =>
    cases h2 with
    | cons a b =>
      cases b with
      | cons b c =>
        cases c
        exact ⟨_, _, _, rfl, h1, a, b⟩
theorem rp_tup3 {x : α × β × γ} (r : Rp H v (encT3 f g h x)) : ∃ a v1 v2 v3, v = .ref a ∧ H a = some (.tup [v1, v2, v3]) ∧ Rp H v1 (f x.1) ∧ Rp H v2 (g x.2.1) ∧ Rp H v3 (h x.2.2) := by
  unfold encT3 at r
  cases r with
  | tup h1 h2 =>
    cases h2 with
    | cons a b =>
      cases b with
      | cons b c =>
        cases c with
        | cons c d =>
          cases d
          exact ⟨_, _, _, _, rfl, h1, a, b, c⟩
theorem rp_mk_list {a : Addr} {vs : List V} {xs : List α} (h1 : H a = some (.lst vs)) (h2 : RpAll H vs (xs.map f)) : Rp H (.ref a) (encL f xs) := .lst h1 h2
theorem rp_mk_ints {a : Addr} {xs : List Int} (h1 : H a = some (.lst (xs.map V.int))) : Rp H (.ref a) (encL PyData.int xs) := .lst h1 (RpAll.ints xs)
theorem rp_mk2 {a : Addr} {v1 v2 : V} {x : α} {y : β} (h1 : H a = some (.tup [v1, v2])) (r1 : Rp H v1 (f x)) (r2 : Rp H v2 (g y)) : Rp H (.ref a) (encT2 f g (x, y)) := .tup h1 (.cons r1 (.cons r2 .nil))
theorem rp_mk3 {a : Addr} {v1 v2 v3 : V} {x : α} {y : β} {z : γ} (h1 : H a = some (.tup [v1, v2, v3])) (r1 : Rp H v1 (f x)) (r2 : Rp H v2 (g y)) (r3 : Rp H v3 (h z)) : Rp H (.ref a) (encT3 f g h (x, y, z)) := .tup h1 (.cons r1 (.cons r2 (.cons r3 .nil)))
end

/-! ### the two heaps -/
def SameXs (L : List Addr) (H H' : Hp) : Prop := ∀ b o, H b = some o → b ∉ L → H' b = some o
theorem SameXs.of {H H' : Hp} {m : Addr} (x : SameX m H H') : SameXs [m] H H' := fun b o e n => x b o e (fun z => n (by rw [z]; exact List.mem_cons_self))
theorem ni1 {b m : Addr} (h : b ≠ m) : b ∉ [m] := by simpa using h
theorem ni2 {b m n : Addr} (h : b ≠ m) (h2 : b ≠ n) : b ∉ [m, n] := by simp [h, h2]
theorem ni3 {b m n o : Addr} (h : b ≠ m) (h2 : b ≠ n) (h3 : b ≠ o) : b ∉ [m, n, o] := by simp [h, h2, h3]
theorem ni4 {b m n o p : Addr} (h : b ≠ m) (h2 : b ≠ n) (h3 : b ≠ o) (h4 : b ≠ p) : b ∉ [m, n, o, p] := by simp [h, h2, h3, h4]
def hideL (L : List Addr) (H : Hp) : Hp := fun b => if b ∈ L then none else H b
theorem hideL_same (L : List Addr) (H : Hp) : Same (hideL L H) H := fun b o e => by
  unfold hideL at e
  split at e
  · cases e
  · exact e
theorem hideL_in {L : List Addr} {H : Hp} {b : Addr} (h : b ∈ L) : hideL L H b = none := if_pos h
theorem hideL_out {L : List Addr} {H : Hp} {b : Addr} (h : b ∉ L) : hideL L H b = H b := if_neg h
/-- M: owned from outside; H0, G0: at the entry; G: what stays as it is; O: what may change -/
structure Sep (M : List Addr) (H0 G0 G H : Hp) (O : List Addr) : Prop where
  base : SameXs M H0 H
  pm : ∀ a ∈ M, H a ≠ none
  sG : Same G H
  g0 : Same G0 G
  gn : ∀ b, H0 b ≠ none → G0 b = none → G b = none
  ow : ∀ a ∈ O, G a = none ∧ H a ≠ none ∧ (a ∈ M ∨ H0 a = none)
theorem all_nil {P : Addr → Prop} : ∀ x ∈ ([] : List Addr), P x := fun x h => by cases h
theorem all_cons {P : Addr → Prop} {a : Addr} {l : List Addr} (h : P a) (t : ∀ x ∈ l, P x) : ∀ x ∈ a :: l, P x := fun x hx => by
  cases hx with
  | head => exact h
  | tail _ hx => exact t x hx
theorem some_ne {H : Hp} {a : Addr} {o : HO} (h : H a = some o) : H a ≠ none := by
  rw [h]
  exact fun z => nomatch z
theorem same_ne {H H' : Hp} {a : Addr} (e : Same H H') (h : H a ≠ none) : H' a ≠ none := by
  cases q : H a with
  | none => exact absurd q h
  | some o => exact some_ne (e a o q)
section
variable {M : List Addr} {H0 G0 G H H' : Hp} {O : List Addr} {p m : Addr} {o : HO}
theorem Sep.start (M : List Addr) (H : Hp) (hM : ∀ a ∈ M, H a ≠ none) : Sep M H (hideL M H) (hideL M H) H M :=
  ⟨fun _ _ e _ => e, hM, hideL_same M H, Same.refl _, fun _ _ e => e, fun a ha => ⟨hideL_in ha, hM a ha, .inl ha⟩⟩
theorem Sep.startG {G H : Hp} (e : Same G H) : Sep [] H G G H [] := ⟨fun _ _ e _ => e, all_nil, e, Same.refl _, fun _ _ e => e, fun a ha => by cases ha⟩
theorem Sep.start0 (H : Hp) : Sep [] H H H H [] := Sep.startG (Same.refl H)
theorem Sep.b0 (S : Sep [] H0 G0 G H O) : Same H0 H := fun b o e => S.base b o e List.not_mem_nil
theorem Sep.free (S : Sep M H0 G0 G H O) {q : Addr} (n : H q = none) : H0 q = none := by
  cases e : H0 q with
  | none => rfl
  | some o =>
    by_cases h : q ∈ M
    · exact absurd n (S.pm q h)
    · rw [S.base q o e h] at n
      cases n
theorem Sep.same (S : Sep M H0 G0 G H O) (e : Same H H') : Sep M H0 G0 G H' O :=
  ⟨fun b o h n => e b o (S.base b o h n), fun a ha => same_ne e (S.pm a ha), S.sG.trans e, S.g0, S.gn, fun a ha => ⟨(S.ow a ha).1, same_ne e (S.ow a ha).2.1, (S.ow a ha).2.2⟩⟩
theorem Sep.gfree (S : Sep M H0 G0 G H O) {q : Addr} (n : H q = none) : G q = none := by
  cases e : G q with
  | none => rfl
  | some o => rw [S.sG q o e] at n; cases n
theorem Sep.new (S : Sep M H0 G0 G H O) (n : H p = none) (e : Same H H') (h : H' p = some o) (hm : H0 p = none) : Sep M H0 G0 G H' (p :: O) := by
  have S1 := S.same e
  refine ⟨S1.base, S1.pm, S1.sG, S1.g0, S1.gn, fun a ha => ?_⟩
  cases ha with
  | head => exact ⟨S.gfree n, some_ne h, .inr hm⟩
  | tail _ ha => exact S1.ow a ha
theorem Sep.grow (S : Sep M H0 G0 G H O) (n : H p = none) (e : Same H H') (h : H' p = some o) (hm : H0 p = none) : ∃ G', Same G G' ∧ G' p = some o ∧ Sep M H0 G0 G' H' O := by
  have S1 := S.same e
  have ng := S.gfree n
  refine ⟨upd G p o, fun b u q => by rw [upd_ne (ne_of_none q ng)]; exact q, upd_same, S1.base, S1.pm, fun b u q => ?_, fun b u q => ?_, fun b hb gb => ?_, fun a ha => ?_⟩
  · by_cases z : b = p
    · subst z
      rw [upd_same] at q
      exact q ▸ h
    · rw [upd_ne z] at q
      exact S1.sG b u q
  · have := S.g0 b u q
    rw [upd_ne (ne_of_none this ng)]
    exact this
  · by_cases z : b = p
    · subst z
      exact absurd hm hb
    · rw [upd_ne z]
      exact S.gn b hb gb
  · have hne : a ≠ p := fun z => (S.ow a ha).2.1 (by rw [z]; exact n)
    rw [upd_ne hne]
    exact S1.ow a ha
theorem Sep.mut (S : Sep M H0 G0 G H O) {L : List Addr} (x : SameXs L H H') (hL : ∀ a ∈ L, a ∈ O) (hs : ∀ a ∈ L, H' a ≠ none) : Sep M H0 G0 G H' O := by
  have keep : ∀ a, H a ≠ none → H' a ≠ none := fun a h => by
    by_cases hb : a ∈ L
    · exact hs a hb
    · cases q : H a with
      | none => exact absurd q h
      | some o => exact some_ne (x a o q hb)
  refine ⟨fun b o e n => ?_, fun a ha => keep a (S.pm a ha), fun b o e => ?_, S.g0, S.gn, fun a ha => ⟨(S.ow a ha).1, keep a (S.ow a ha).2.1, (S.ow a ha).2.2⟩⟩
  · refine x b o (S.base b o e n) fun hb => ?_
    rcases (S.ow b (hL b hb)).2.2 with z | z
    · exact n z
    · rw [e] at z; cases z
  · refine x b o (S.sG b o e) fun hb => ?_
    have := (S.ow b (hL b hb)).1
    rw [e] at this
    cases this
theorem Sep.mut1 (S : Sep M H0 G0 G H O) (x : SameX m H H') (hm : m ∈ O) (h : H' m = some o) : Sep M H0 G0 G H' O :=
  S.mut (SameXs.of x) (all_cons hm all_nil) (all_cons (some_ne h) all_nil)
theorem Sep.sub (S : Sep M H0 G0 G H O) {O' : List Addr} (h : ∀ a ∈ O', a ∈ O) : Sep M H0 G0 G H O' := ⟨S.base, S.pm, S.sG, S.g0, S.gn, fun a ha => S.ow a (h a ha)⟩
/-- what was owned and is to stay as it is from now on -/
theorem Sep.freeze (S : Sep M H0 G0 G H O) {O' : List Addr} (hp : p ∈ O) (h : H p = some o) (hm : H0 p = none) (hO : ∀ a ∈ O', a ∈ O ∧ a ≠ p) : ∃ G', Same G G' ∧ G' p = some o ∧ Sep M H0 G0 G' H O' := by
  have ng := (S.ow p hp).1
  refine ⟨upd G p o, fun b u q => by rw [upd_ne (ne_of_none q ng)]; exact q, upd_same, S.base, S.pm, fun b u q => ?_, fun b u q => ?_, fun b hb gb => ?_, fun a ha => ?_⟩
  · by_cases z : b = p
    · subst z
      rw [upd_same] at q
      exact q ▸ h
    · rw [upd_ne z] at q
      exact S.sG b u q
  · have := S.g0 b u q
    rw [upd_ne (ne_of_none this ng)]
    exact this
  · by_cases z : b = p
    · subst z
      exact absurd hm hb
    · rw [upd_ne z]
      exact S.gn b hb gb
  · rw [upd_ne (hO a ha).2]
    exact S.ow a (hO a ha).1
/-- a callee that hands on data in a stable heap of its own -/
theorem Sep.step (S : Sep M H0 G0 G H O) {G' : Hp} (e : Same H H') (eG : Same G G') (sG : Same G' H') (hn : ∀ b, H b ≠ none → G b = none → G' b = none) : Sep M H0 G0 G' H' O := by
  have S1 := S.same e
  refine ⟨S1.base, S1.pm, sG, S.g0.trans eG, fun b hb gb => ?_, fun a ha => ⟨hn a (S.ow a ha).2.1 (S.ow a ha).1, (S1.ow a ha).2⟩⟩
  refine hn b (fun z => ?_) (S.gn b hb gb)
  exact hb (S.free z)
theorem Sep.hid (S : Sep M H0 G0 G H O) {L : List Addr} (h : ∀ a ∈ L, a ∈ O) : Same G (hideL L H) := fun b o e => by
  rw [hideL_out fun z => by
    have := (S.ow b (h b z)).1
    rw [e] at this
    cases this]
  exact S.sG b o e
end
end Vx

namespace Vx
open PySem PySem.Spec PyProof.Rows L2
/-! ### lists of plain things (f : V.int, V.bl, V.str) -/
section
variable {α : Type} {f : α → V} {H : Hp} {p : Addr}
theorem cat_map {xs ys : List α} (h : H p = some (.lst (xs.map f ++ ys.map f))) : H p = some (.lst ((xs ++ ys).map f)) := by
  rw [List.map_append]; exact h
theorem snoc_map {xs : List α} {y : α} (h : H p = some (.lst (xs.map f ++ [f y]))) : H p = some (.lst ((xs ++ [y]).map f)) := by
  rw [List.map_append]; exact h
def repL (xs : List α) (k : Int) : List α := (List.replicate k.toNat xs).flatten
theorem rep_map {xs : List α} {k : Int} (h : H p = some (.lst (List.replicate k.toNat (xs.map f)).flatten)) : H p = some (.lst ((repL xs k).map f)) := by
  rw [h]
  unfold repL
  rw [List.map_flatten, List.map_replicate]
def cutL (xs : List α) (lo hi : Option Int) : List α := (xs.drop (HT.sIx xs.length 0 lo)).take (HT.sIx xs.length xs.length hi - HT.sIx xs.length 0 lo)
theorem cut_map {xs : List α} {lo hi : Option Int} (h : H p = some (.lst (cutV (xs.map f) lo hi))) : H p = some (.lst ((cutL xs lo hi).map f)) := by
  rw [h]
  unfold cutV cutL
  rw [List.length_map, List.map_take, List.map_drop]
theorem cast_map {xs ys : List α} (h : H p = some (.lst (xs.map f))) (e : xs = ys) : H p = some (.lst (ys.map f)) := e ▸ h
theorem drop_map {xs : List α} (h : H p = some (.lst (xs.map f).dropLast)) : H p = some (.lst (xs.dropLast.map f)) := by
  rw [h, List.map_dropLast]
theorem ixN_some {n : Nat} {k : Int} (h : -(n : Int) ≤ k ∧ k < n) : ∃ j, ixN n k = some j ∧ j < n := by
  unfold ixN
  by_cases h0 : 0 ≤ k
  · exact ⟨k.toNat, by rw [if_pos h0, if_pos h.2], by omega⟩
  · exact ⟨(k + n).toNat, by rw [if_neg h0, if_pos h.1], by omega⟩
def itD [Inhabited α] (xs : List α) (k : Int) : α := (atI xs k).getD default
theorem atI_map [Inhabited α] {xs : List α} {k : Int} (h : -(xs.length : Int) ≤ k ∧ k < xs.length) : atI (xs.map f) k = some (f (itD xs k)) := by
  obtain ⟨j, e, hj⟩ := ixN_some h
  unfold itD atI
  rw [List.length_map, e]
  show (xs.map f)[j]? = some (f ((xs[j]?).getD default))
  rw [List.getElem?_map, List.getElem?_eq_getElem hj] <;> rfl
def setL (xs : List α) (k : Int) (y : α) : List α := xs.set ((ixN xs.length k).getD 0) y
theorem ixN_map {xs : List α} {k : Int} (h : -(xs.length : Int) ≤ k ∧ k < xs.length) : ixN (xs.map f).length k = some ((ixN xs.length k).getD 0) := by
  obtain ⟨j, e, hj⟩ := ixN_some h
  rw [List.length_map, e] <;> rfl
theorem set_map {xs : List α} {k : Int} {y : α} (h : H p = some (.lst ((xs.map f).set ((ixN xs.length k).getD 0) (f y)))) : H p = some (.lst ((setL xs k y).map f)) := by
  rw [h]
  unfold setL
  rw [List.map_set]
def lastD [Inhabited α] (xs : List α) : α := xs.getLastD default
theorem pop_map [Inhabited α] {xs : List α} (h : xs ≠ []) : (xs.map f)[(xs.map f).length - 1]? = some (f (lastD xs)) := by
  rw [← List.getLast?_eq_getElem?, List.getLast?_map]
  unfold lastD
  cases e : xs.getLast? with
  | none => exact absurd (List.getLast?_eq_none_iff.mp e) h
  | some y =>
    rw [List.getLastD_eq_getLast?, e] <;> rfl
end
/-! ### lists of data -/
section
variable {α β : Type} {f : α → PyData} {g : β → PyData} {G : Hp} {vs ws : List V} {xs ys : List α}
theorem app_map (a : RpAll G vs (xs.map f)) (b : RpAll G ws (ys.map f)) : RpAll G (vs ++ ws) ((xs ++ ys).map f) := by
  rw [List.map_append]; exact a.append b
theorem one_map {v : V} {y : α} (a : RpAll G vs (xs.map f)) (b : Rp G v (f y)) : RpAll G (vs ++ [v]) ((xs ++ [y]).map f) := by
  rw [List.map_append]; exact a.append (.one b)
theorem rep_all (k : Int) (a : RpAll G vs (xs.map f)) : RpAll G (List.replicate k.toNat vs).flatten ((repL xs k).map f) := by
  unfold repL
  rw [List.map_flatten, List.map_replicate]
  exact a.rep _
theorem cut_all (lo hi : Option Int) (a : RpAll G vs (xs.map f)) : RpAll G (cutV vs lo hi) ((cutL xs lo hi).map f) := by
  unfold cutV cutL
  rw [a.len, List.length_map, List.map_take, List.map_drop]
  exact (a.drop _).take _
theorem rp_cast {v : V} {d e : PyData} (r : Rp G v d) (h : d = e) : Rp G v e := h ▸ r
theorem comp_listD {i : Nat} {x : α} {y : β} {v : V} {h : α → β} (hi : xs[i]? = some x) (a : RpAll G vs (((xs.take i).map h).map g)) (r : Rp G v (g y)) (e : h x = y) : RpAll G (vs ++ [v]) (((xs.take (i + 1)).map h).map g) := by
  rw [take_succ_get hi, List.map_append, List.map_append]
  exact a.append (.one (e ▸ r))
theorem comp_rangeD {i : Nat} {y : β} {v : V} {h : Nat → β} (a : RpAll G vs (((List.range i).map h).map g)) (r : Rp G v (g y)) (e : h i = y) : RpAll G (vs ++ [v]) (((List.range (i + 1)).map h).map g) := by
  rw [List.range_succ, List.map_append, List.map_append]
  exact a.append (.one (e ▸ r))
theorem comp_doneD {n : Nat} {h : List α → List β} (hl : n = xs.length) (a : RpAll G vs ((h (xs.take n)).map g)) : RpAll G vs ((h xs).map g) := by
  rw [hl, List.take_length] at a
  exact a
theorem comp_listFD {i : Nat} {x : α} {y : β} {v : V} {h : α → β} {q : α → Bool} (hi : xs[i]? = some x) (hq : q x = true) (a : RpAll G vs ((((xs.take i).filter q).map h).map g)) (r : Rp G v (g y)) (e : h x = y) : RpAll G (vs ++ [v]) ((((xs.take (i + 1)).filter q).map h).map g) := by
  rw [take_succ_get hi, List.filter_append, List.filter_cons, if_pos hq, List.map_append, List.map_append]
  exact a.append (.one (e ▸ r))
theorem skip_listD {i : Nat} {x : α} {h : α → β} {q : α → Bool} (hi : xs[i]? = some x) (hq : q x = false) (a : RpAll G vs ((((xs.take i).filter q).map h).map g)) : RpAll G vs ((((xs.take (i + 1)).filter q).map h).map g) := by
  rw [take_succ_get hi, List.filter_append, List.filter_cons, if_neg (by rw [hq]; decide), List.filter_nil, List.append_nil]
  exact a
end
section
variable {α β : Type} {f : β → V} {H : Hp} {D : Addr} {xs : List α}
theorem compM_list {i : Nat} {x : α} {y : β} {h : α → β} (hi : xs[i]? = some x) (a : H D = some (.lst (((xs.take i).map h).map f ++ [f y]))) (e : h x = y) : H D = some (.lst (((xs.take (i + 1)).map h).map f)) := by
  rw [a, ← e, take_succ_get hi, List.map_append, List.map_append] <;> rfl
theorem compM_range {i : Nat} {y : β} {h : Nat → β} (a : H D = some (.lst (((List.range i).map h).map f ++ [f y]))) (e : h i = y) : H D = some (.lst (((List.range (i + 1)).map h).map f)) := by
  rw [a, ← e, List.range_succ, List.map_append, List.map_append] <;> rfl
theorem compM_done {n : Nat} {h : List α → List β} (hl : n = xs.length) (a : H D = some (.lst ((h (xs.take n)).map f))) : H D = some (.lst ((h xs).map f)) := by
  rw [hl, List.take_length] at a
  exact a
theorem compM_listF {i : Nat} {x : α} {y : β} {h : α → β} {q : α → Bool} (hi : xs[i]? = some x) (hq : q x = true) (a : H D = some (.lst ((((xs.take i).filter q).map h).map f ++ [f y]))) (e : h x = y) : H D = some (.lst ((((xs.take (i + 1)).filter q).map h).map f)) := by
  rw [a, ← e, take_succ_get hi, List.filter_append, List.filter_cons, if_pos hq, List.map_append, List.map_append] <;> rfl
theorem skipM_list {i : Nat} {x : α} {h : α → β} {q : α → Bool} (hi : xs[i]? = some x) (hq : q x = false) (a : H D = some (.lst ((((xs.take i).filter q).map h).map f))) : H D = some (.lst ((((xs.take (i + 1)).filter q).map h).map f)) := by
  rw [a, take_succ_get hi, List.filter_append, List.filter_cons, if_neg (by rw [hq]; decide), List.filter_nil, List.append_nil]
theorem compM_rangeF {i : Nat} {y : β} {h : Nat → β} {q : Nat → Bool} (hq : q i = true) (a : H D = some (.lst ((((List.range i).filter q).map h).map f ++ [f y]))) (e : h i = y) : H D = some (.lst ((((List.range (i + 1)).filter q).map h).map f)) := by
  rw [a, ← e, List.range_succ, List.filter_append, List.filter_cons, if_pos hq, List.map_append, List.map_append] <;> rfl
theorem skipM_range {i : Nat} {h : Nat → β} {q : Nat → Bool} (hq : q i = false) (a : H D = some (.lst ((((List.range i).filter q).map h).map f))) : H D = some (.lst ((((List.range (i + 1)).filter q).map h).map f)) := by
  rw [a, List.range_succ, List.filter_append, List.filter_cons, if_neg (by rw [hq]; decide), List.filter_nil, List.append_nil]
end
/-! ### more rules -/
section
variable {X : Cx} {K : PySem.W.Frag}
theorem ix_tupK (hK : X.K = K := by rfl) : IxR X (rIxT K) := hK ▸ ix_tup
def rLenLK (K : PySem.W.Frag) : List V → Hp → VK → Prop := fun xs H Q => ∃ (p : Addr) (vs : List V) (n : Nat), xs = [.ref p] ∧ SqL K H p vs ∧ vs.length = n ∧ Q (.int (n : Int)) H
theorem call_lenLK (hK : X.K = K := by rfl) : CallR X (.builtin "len") (rLenLK K) := by
  subst hK
  intro pins s σ H xs us Q I r h
  obtain ⟨p, vs, n, rfl, hs, hn, q⟩ := h
  exact call_len_seq pins s σ H _ us Q I r ⟨p, _, rfl, Or.inl hs, by rw [hn]; exact q⟩
def rListLK (K : PySem.W.Frag) : List V → Hp → VK → Prop := fun xs H Q => ∃ (p : Addr) (vs : List V), xs = [.ref p] ∧ SqL K H p vs ∧ ∀ l, H l = none → Q (.ref l) (upd H l (.lst vs))
theorem call_listLK (hK : X.K = K := by rfl) : CallR X (.type "list") (rListLK K) := by
  subst hK
  intro pins s σ H xs us Q I r h
  obtain ⟨p, vs, rfl, hs, q⟩ := h
  exact call_list_of pins s σ H _ us Q I r ⟨p, _, rfl, Or.inl hs, q⟩
theorem cr_anyK (hc : X.calm = true) (hK : X.K = K := by rfl) : CallR X (.builtin "any") (rAny K) := hK ▸ cr_any hc
theorem cr_allK (hc : X.calm = true) (hK : X.K = K := by rfl) : CallR X (.builtin "all") (rAll K) := hK ▸ cr_all hc
theorem pi_tupK {tg l : Expr} {tl : TE} (hl : PE X l tl) (hK : X.K = K := by rfl) : PI X tg l (iTup K tl) := hK ▸ pi_tup hl
theorem pip {op : Operator} {r : R2} (h : OpR X (inplaceOp op) r) : PIp X op r := fun pins s σ H x y v u Q I rx ry q => h pins s σ H x y v u Q I rx ry q
/-- an item at a place from 0 on, by itself (ahead of o[i] op= e) -/
def rIxP (K : PySem.W.Frag) : R2 := fun x y H Q => ∃ (p : Addr) (xs : List V) (k : Int) (v : V), x = .ref p ∧ y = .int k ∧ SqL K H p xs ∧ 0 ≤ k ∧ k < 2 ^ 62 ∧ atI xs k = some v ∧ Q v H
theorem pget_list (hK : X.K = K := by rfl) : PGet X (rIxP K) := by
  subst hK
  intro pins s σ H o i ov iv Q I ro ri h
  obtain ⟨p, xs, k, v, rfl, rfl, hq, h0, h62, ha, q⟩ := h
  cases ro
  obtain ⟨t, rfl⟩ := ri
  obtain ⟨its, r, pl, hz⟩ := I.list hq
  obtain ⟨j, h1, h2, h3, h4, h5⟩ := atI_get ha
  obtain ⟨w, ew, rw'⟩ := r.get h2
  have hj : k.toNat = j := by
    rw [seqIndex_of h0 h5] at h1
    exact Option.some.inj h1
  exact getItem_listL pl.isList h0 (by omega) (by rw [hj]; simpa using ew) ⟨v, H, I, rw', q⟩
theorem tru_map {α : Type} [DecidableEq α] {f : α → V} {xs : List α} : (!decide (xs = [])) = !(xs.map f).isEmpty := by
  cases xs <;> simp
end
end Vx

namespace Vx
open PySem PySem.Spec PyProof.Rows L2
/-! ### objects -/
section
variable {M : List Addr} {H0 G0 G H H' : Hp} {O : List Addr} {p m : Addr} {o : HO}
theorem gen_obj {x dx : Addr} {o1 o2 : HO} (nx : H x = none) (nd : H dx = none) (ne : dx ≠ x) (h : upd (upd H dx o1) x o2 = H') : Same H H' ∧ H' x = some o2 := by
  subst h
  exact ⟨fun b u e => by rw [upd_ne (ne_of_none e nx), upd_ne (ne_of_none e nd)]; exact e, upd_same⟩
theorem sameX_of {m : Addr} (x : SameXs [m] H H') : SameX m H H' := fun b o e n => x b o e (by simpa using n)
theorem g_ne {a b : Addr} (h : G a = some o) (S : Sep M H0 G0 G H O) (hb : b ∈ O) : a ≠ b := fun z => by
  have := (S.ow b hb).1
  rw [← z, h] at this
  cases this
/-- an object whose making has laid some lists -/
theorem Sep.mutnew (S : Sep M H0 G0 G H O) {L : List Addr} (x : SameXs L H H') (hL : ∀ a ∈ L, a ∈ O) (hs : ∀ a ∈ L, H' a ≠ none) (hn : H p = none) (hp : H' p ≠ none) (h0 : H0 p = none) : Sep M H0 G0 G H' (p :: O) := by
  have S1 := S.mut x hL hs
  refine ⟨S1.base, S1.pm, S1.sG, S1.g0, S1.gn, all_cons ⟨S.gfree hn, hp, .inr h0⟩ S1.ow⟩
theorem Sep.init (S : Sep M H0 G0 G H O) (x : SameX m H H') (hm : m ∈ O) (h : H' m = some o) (L : List Addr) (hL : ∀ a ∈ L, H a = none ∧ H' a ≠ none ∧ H0 a = none) : Sep M H0 G0 G H' (L ++ O) := by
  have S1 := S.mut1 x hm h
  refine ⟨S1.base, S1.pm, S1.sG, S1.g0, S1.gn, fun a ha => ?_⟩
  rcases List.mem_append.mp ha with z | z
  · obtain ⟨h1, h2, h3⟩ := hL a z
    exact ⟨S.gfree h1, h2, .inr h3⟩
  · exact S1.ow a z
end
section
variable {P : Program} {w : World} {K : PySem.W.Frag} {mg : Str → Option Value} {base : Heap}
structure MethIn (K : PySem.W.Frag) (C : Addr) (q m : Str) (st : Stmt) (ps : List Str) : Prop where
  ex : ∃ (f : Addr) (fd : FuncData), Fun K m q st f fd ∧ Meth K C m f ∧ Binds K fd ps []
structure PropIn (K : PySem.W.Frag) (C : Addr) (q m : Str) (st : Stmt) (ps : List Str) : Prop where
  ex : ∃ (r f : Addr) (fd : FuncData), Fun K m q st f fd ∧ PropOf K C m r f ∧ Binds K fd ps []
structure InitIn (K : PySem.W.Frag) (mg : Str → Option Value) (C : Addr) (cn q : Str) (st : Stmt) (ps : List Str) : Prop where
  ex : ∃ (f : Addr) (fd : FuncData), Fun K "__init__" q st f fd ∧ Mk K C f ∧ mg cn = some (.ref C) ∧ Binds K fd ps []
structure MetC (P : Program) (w : World) (K : PySem.W.Frag) (mg : Str → Option Value) (base : Heap) (k : Nat) (C : Addr) (m : Str) (sp : Sp) : Prop where
  ex : ∃ (f : Addr) (fd : FuncData) (ps : List Str), Cls K C ∧ Meth K C m f ∧ FnOk P w K mg base CX0 k f fd ps sp ∧ Binds K fd ps []
structure PropC (P : Program) (w : World) (K : PySem.W.Frag) (mg : Str → Option Value) (base : Heap) (k : Nat) (C : Addr) (m : Str) (sp : Sp) : Prop where
  ex : ∃ (q f : Addr) (fd : FuncData) (ps : List Str), Cls K C ∧ PropOf K C m q f ∧ FnOk P w K mg base CX0 k f fd ps sp ∧ Binds K fd ps []
structure MakC (P : Program) (w : World) (K : PySem.W.Frag) (mg : Str → Option Value) (base : Heap) (k : Nat) (cn : Str) (C : Addr) (sp : Sp) : Prop where
  ex : ∃ (f : Addr) (fd : FuncData) (ps : List Str), Mk K C f ∧ FnOk P w K mg base CX0 k f fd ps sp ∧ mg cn = some (.ref C) ∧ Binds K fd ps []
abbrev Body (P : Program) (w : World) (K : PySem.W.Frag) (mg : Str → Option Value) (base : Heap) (x : Str) (st : Stmt) (N : List Str) (k : Nat) (sp : Sp) : Prop :=
  ∀ (f : Addr) (cdv : Value) (A : Around) (outer : List Env) (s : Shared) (H : Hp) (vs : List V) (Q : VK) (E : XK), Room k (A.deeper (envOfC x (defScope st) s.heap.objs.size f cdv)) → sp vs H Q E →
    ∃ t, PSs (cxOf CX0 P w K mg base N x (defScope st) f cdv A outer s H E).nox (defBody st) t ∧ t { nx := fun _ H' => Q .non H', rt := Q } (start N vs) H
theorem MethIn.ok {C : Addr} {q m : Str} {st : Stmt} {N ps : List Str} {k : Nat} {sp : Sp} (D : MethIn K C q m st ps) (c : Cls K C) (S : FnScope N ps (defScope st)) (len : ∀ vs H Q E, sp vs H Q E → vs.length = ps.length)
    (hbody : Body P w K mg base q st N k sp) : MetC P w K mg base (k + 1) C m sp := by
  obtain ⟨f, fd, F, me, b⟩ := D.ex
  exact ⟨f, fd, ps, c, me, F.ok S len (fun cdv A outer s H vs Q E hr h => hbody f cdv A outer s H vs Q E hr h), b⟩
theorem PropIn.ok {C : Addr} {q m : Str} {st : Stmt} {N ps : List Str} {k : Nat} {sp : Sp} (D : PropIn K C q m st ps) (c : Cls K C) (S : FnScope N ps (defScope st)) (len : ∀ vs H Q E, sp vs H Q E → vs.length = ps.length)
    (hbody : Body P w K mg base q st N k sp) : PropC P w K mg base (k + 1) C m sp := by
  obtain ⟨r, f, fd, F, me, b⟩ := D.ex
  exact ⟨r, f, fd, ps, c, me, F.ok S len (fun cdv A outer s H vs Q E hr h => hbody f cdv A outer s H vs Q E hr h), b⟩
theorem InitIn.ok {C : Addr} {cn q : Str} {st : Stmt} {N ps : List Str} {k : Nat} {sp : Sp} (D : InitIn K mg C cn q st ps) (S : FnScope N ps (defScope st)) (len : ∀ vs H Q E, sp vs H Q E → vs.length = ps.length)
    (hbody : Body P w K mg base q st N k sp) : MakC P w K mg base (k + 1) cn C sp := by
  obtain ⟨f, fd, F, me, hm, b⟩ := D.ex
  exact ⟨f, fd, ps, me, F.ok S len (fun cdv A outer s H vs Q E hr h => hbody f cdv A outer s H vs Q E hr h), hm, b⟩
end
section
variable {X : Cx} {k j : Nat} {C : Addr} {x m : Str} {sp : Sp} {p pos apos : Pos} {e o : Expr} {es : List Expr} {ta : TE} {t : TA}
theorem vx_call0 (c : Cal X.prog X.w X.K X.mg X.base k x sp) (hr : Room j X.A) (hk : k ≤ j) (hg : Gl X x) (hdb : (x == ("__debug__" : Str)) = false := by decide) : PE X (.Call (.Name x p) [] [] pos) (tCall sp [] E0 tNil) := by
  obtain ⟨f, fd, ps, F, hm, kp, b⟩ := c.ex
  exact pe_call0 F (hr.mono hk) hg hm kp b .nil pass0 hdb
theorem vx_make (c : MakC X.prog X.w X.K X.mg X.base k x C sp) (hr : Room j X.A) (hk : k + 1 ≤ j) (hg : Gl X x) (ha : PA X (e :: es) t)
    (hdb : (x == ("__debug__" : Str)) = false := by decide) (he : starEach (e :: es) X.env = (false, eval e X.env) :: starEach es X.env := by rfl) (hpl : (backTo pos (starEach es X.env)).any (·.1) = false := by rfl) :
    PE X (.Call (.Name x p) (e :: es) [] pos) (tMake C sp [] E0 t) := by
  obtain ⟨f, fd, ps, M, F, hm, b⟩ := c.ex
  exact pe_make M F (hr.mono hk) hg hm b .nil pass0 ha hdb he hpl
theorem vx_make0 (c : MakC X.prog X.w X.K X.mg X.base k x C sp) (hr : Room j X.A) (hk : k + 1 ≤ j) (hg : Gl X x) (hdb : (x == ("__debug__" : Str)) = false := by decide) :
    PE X (.Call (.Name x p) [] [] pos) (tMake C sp [] E0 tNil) := by
  obtain ⟨f, fd, ps, M, F, hm, b⟩ := c.ex
  exact pe_make0 M F (hr.mono hk) hg hm b .nil pass0 hdb
theorem vx_meth {pl : Sem Bool} (c : MetC X.prog X.w X.K X.mg X.base k C m sp) (hr : Room j X.A) (hk : k ≤ j) (he : PE X o ta) (ha : PA X (e :: es) t)
    (hst : starEach (e :: es) X.env = (false, eval e X.env) :: starEach es X.env := by rfl) (hpl : (backTo pos (starEach es X.env)).any (·.1) = false := by rfl)
    (ht : eval (.Call (.Attribute o m apos) (e :: es) [] pos) X.env = (do
      let ov ← eval o X.env
      standAt apos.atName
      let (f, first) ← holding [ov] (getMethod ov m pl)
      callWith pos f first (backTo pos (starEach (e :: es) X.env)) (backToKw pos (keywordEach [] X.env))) := by rfl) :
    PE X (.Call (.Attribute o m apos) (e :: es) [] pos) (tMeth C m sp [] E0 ta t) := by
  obtain ⟨f, fd, ps, hc, hm, F, b⟩ := c.ex
  exact pe_meth he hc hm F (hr.mono hk) b .nil pass0 ha hst hpl ht
theorem vx_meth0 {pl : Sem Bool} (c : MetC X.prog X.w X.K X.mg X.base k C m sp) (hr : Room j X.A) (hk : k ≤ j) (he : PE X o ta)
    (ht : eval (.Call (.Attribute o m apos) [] [] pos) X.env = (do
      let ov ← eval o X.env
      standAt apos.atName
      let (f, first) ← holding [ov] (getMethod ov m pl)
      callWith pos f first (backTo pos (starEach [] X.env)) (backToKw pos (keywordEach [] X.env))) := by rfl) :
    PE X (.Call (.Attribute o m apos) [] [] pos) (tMeth C m sp [] E0 ta tNil) := by
  obtain ⟨f, fd, ps, hc, hm, F, b⟩ := c.ex
  exact pe_meth0 he hc hm F (hr.mono hk) b .nil pass0 ht
theorem vx_prop (c : PropC X.prog X.w X.K X.mg X.base k C m sp) (hr : Room j X.A) (hk : k + 1 ≤ j) (he : PE X o ta) (hab : attributeBase o m X.env (eval o X.env) = eval o X.env) : PE X (.Attribute o m pos) (tProp C sp [] E0 ta) := by
  obtain ⟨q, f, fd, ps, hc, hp, F, b⟩ := c.ex
  exact pe_prop he hc hp F (hr.mono hk) b .nil pass0 hab
end
theorem iteBNT {b : Bool} {A B : Prop} (h : b = false) (k : A) : if (!b) = true then A else B := by rw [h]; exact iteT k
theorem iteNN {b : Bool} {A B : Prop} (h : if b = true then A else B) : if (!!b) = true then A else B := by rw [Bool.not_not]; exact h
theorem iteBNF {b : Bool} {A B : Prop} (h : b = true) (k : B) : if (!b) = true then A else B := by rw [h]; exact iteF k
theorem shl_side {i j : Int} (h0 : 0 ≤ j) (h1 : j ≤ 4096) (h2 : -(2 ^ 4096) < i) (h3 : i < 2 ^ 4096) : CShl i j := by
  obtain ⟨k, rfl⟩ := Int.eq_ofNat_of_zero_le h0
  exact shl_ok (n := 4096) (by omega) (by omega)
end Vx

namespace Vx
open PySem PySem.Spec PyProof.Rows L2
section
variable {X : Cx} {K : PySem.W.Frag}
theorem fldK {e : Expr} {f : Str} {pos : Pos} {ta : TE} (he : PE X e ta) (hb : attributeBase e f X.env (eval e X.env) = eval e X.env := by rfl) (hK : X.K = K := by rfl) : PE X (.Attribute e f pos) (tFld K ta f) := hK ▸ pe_fld he hb
theorem pg_tupK {es : List Expr} {k : Nat} {t : TGs} {n : Nat} {pos : Pos} (h : PGs X es t) (hc : X.calm = true := by rfl)
    (hn : (assignEach es X.env).length = n := by rfl) (hst : (assignEach es X.env).findIdx? (·.1) = none := by rfl) (hK : X.K = K := by rfl) : PG X (.Tuple es k pos) (gTup K n t) := hK ▸ pg_tup hc h hn hst
end
end Vx

namespace Vx
open PySem PySem.Spec PyProof.Rows L2
section
variable {α β : Type} {f : α → PyData} {g : β → PyData} {fv : α → V} {gv : β → V} {G : Hp} {vs ws : List V} {xs : List α} {ys : List β}
theorem big1 {n : Nat} (h : n ≤ 1000000) : n ≤ sizeLine := smallE h
theorem cat_len (a : RpAll G vs (xs.map f)) (b : RpAll G ws (ys.map g)) (h : xs.length + ys.length ≤ 1000000) : vs.length + ws.length ≤ sizeLine := by
  rw [a.len, b.len, List.length_map, List.length_map]; exact smallE h
theorem cat_lenM (h : xs.length + ys.length ≤ 1000000) : (xs.map fv).length + (ys.map gv).length ≤ sizeLine := by
  rw [List.length_map, List.length_map]; exact smallE h
theorem rep_len {k : Nat} (a : RpAll G vs (xs.map f)) (h : xs.length * k ≤ 1000000) : vs.length * k ≤ sizeLine := by
  rw [a.len, List.length_map]; exact smallE h
theorem rep_lenM {k : Nat} (h : xs.length * k ≤ 1000000) : (xs.map fv).length * k ≤ sizeLine := by
  rw [List.length_map]; exact smallE h
theorem app_len (a : RpAll G vs (xs.map f)) (h : xs.length ≤ 1000000) : vs.length < sizeLine := by
  rw [a.len, List.length_map]; exact small h
theorem app_lenM (h : xs.length ≤ 1000000) : (xs.map fv).length < sizeLine := by
  rw [List.length_map]; exact small h
theorem cutL_len {α : Type} (xs : List α) (lo hi : Option Int) : (cutL xs lo hi).length ≤ xs.length := by
  unfold cutL
  rw [List.length_take, List.length_drop]
  omega
theorem repL_len {α : Type} (xs : List α) (k : Int) : (repL xs k).length = k.toNat * xs.length := by
  unfold repL
  simp
end
end Vx
/-! # promises of defs that know that nothing is being shown (so that repr may be called) -/
namespace Vx
open PySem PySem.Spec PyProof.Rows L2
structure RoomG (k : Nat) (A : Around) : Prop extends Room k A where
  gd : A.guards = some []
theorem RoomG.low {j k : Nat} {A : Around} (r : RoomG k A) (h : j ≤ k) : RoomG j A := ⟨r.toRoom.mono h, r.gd⟩
theorem RoomG.one {k : Nat} {A : Around} (r : RoomG (k + 1) A) : RoomG k A.in1 := ⟨r.toRoom.in1, r.gd⟩
theorem make_gd {A : Around} (C : Addr) (us : List Value) (kw : List (Str × Value)) (h : A.guards = some []) : (A.under (.builtin "type.__call__" ⟨.ref C :: us, kw⟩)).guards = some [] := by
  obtain ⟨hd, d, fr, gs, u⟩ := A
  subst h
  simp [Around.under, Code.guards, Code.isGuard, guardIds, pushGuards]
theorem RoomG.made {k : Nat} {A : Around} (r : RoomG (k + 1) A) (C : Addr) (us : List Value) (kw : List (Str × Value)) : RoomG k (A.under (.builtin "type.__call__" ⟨.ref C :: us, kw⟩)) := ⟨r.toRoom.make C us kw, make_gd C us kw r.gd⟩
structure FnG (P : Program) (w : World) (K : PySem.W.Frag) (mg : Str → Option Value) (base : Heap) (cx : CXT) (k : Nat) (f : Addr) (fd : FuncData) (ps : List Str) (sp : Sp) : Prop where
  len : ∀ vs H Q E, sp vs H Q E → vs.length = ps.length
  run : ∀ (A : Around) (outer : List Env) (s : Shared) (H : Hp) (args : Args) (us : List Value) (vs : List V) (Q : VK) (E : XK), RoomG k A → Env0 P w K mg base A outer s H → BindsTo s fd args (ps.zip us) → Vals vs us → sp vs H Q E → codeAny (model P w) A (.call (.ref f) args) (CR cx outer P w H s Q E) s
section
variable {P : Program} {w : World} {K : PySem.W.Frag} {mg : Str → Option Value} {base : Heap} {cx : CXT} {j k : Nat} {f : Addr} {fd : FuncData} {ps : List Str} {sp sp' : Sp}
theorem FnG.imp (F : FnG P w K mg base cx k f fd ps sp) (h : ∀ vs H Q E, sp' vs H Q E → sp vs H Q E) : FnG P w K mg base cx k f fd ps sp' := ⟨fun vs H Q E q => F.len vs H Q E (h vs H Q E q), fun A o s H a us vs Q E r e b v q => F.run A o s H a us vs Q E r e b v (h vs H Q E q)⟩
/-- the body's promise is the def's -/
theorem FnG.body {x qual : Str} {params : Arguments} {body : List Stmt} {scope : Scope} {dvs : List V} {kws : List (Str × V)} {N : List Str} (F : FunD K x qual params body scope dvs kws f fd) (S : FnScope N ps scope) (len : ∀ vs H Q E, sp vs H Q E → vs.length = ps.length)
    (hb : ∀ (cdv : Value) (A : Around) (outer : List Env) (s : Shared) (H : Hp) (vs : List V) (Q : VK) (E : XK), RoomG k (A.deeper (envOfC qual scope s.heap.objs.size f cdv)) → sp vs H Q E →
      ∃ t, PSs (cxOf cx P w K mg base N qual scope f cdv A outer s H E) body t ∧ t { nx := fun _ H' => Q .non H', rt := Q } (start N vs) H) : FnG P w K mg base cx (k + 1) f fd ps sp := by
  obtain ⟨oc, od, dV, kV, doc, pm, an, cdv, ct, osl, rfl, lk, code, _, _⟩ := F.ex
  constructor
  · exact len
  · intro A outer s H args us vs Q E room env binds vals prom
    have nvs := len vs H Q E prom
    have kin : K.In s.heap := env.mod.kin.keeps fun b o q => (env.bs b o q).1
    have nolim : s.heap.NoLimit := env.mod.nolimit.keeps fun b o q => (env.bs b o q).1
    have kinds : ∀ q ∈ ps.zip us, scope.names.lookup q.1 = some .local ∨ (scope.names.lookup q.1 = some .cell ∧ ((cellsFrom (s.heap.objs.size + 1) scope.names []).lookup q.1).isSome = true) := by
      rintro ⟨n, v⟩ hq
      cases S.par n (List.of_mem_zip hq).1 with
      | inl z => exact .inl z
      | inr z => exact .inr ⟨z, PySem.W.cellsFrom_some _ _ _ (.inl z)⟩
    refine codeAny_call_function room.toRoom.depth (kin _ _ lk) rfl S.co S.gen rfl (PySem.W.codeRec_of kin code) (binds _ _ _ _ ?_)
    refine wpAny_newFunctionEnv_cells S.kind kinds ?_
    rintro _ rfl s1 made
    refine ⟨nolim.keeps made.toInCall.keep, codeAny_func ?_⟩
    obtain ⟨t, pss, start_⟩ := hb cdv A outer s H vs Q E ⟨room.toRoom.deeper _, room.gd⟩ prom
    have inv := inv_start (CX := cx) (E := E) S room.hd env nvs vals made
    have close : ∀ {τ : L2.St} {H2 : Hp} {v : V} {u : Value} {s2 : Shared}, Inv (cxOf cx P w K mg base N qual scope f cdv A outer s H E) [] τ H2 s2 → RelV v u → Q v H2 → CE outer P w H s Q u s2 := fun inv2 rel q => ⟨_, _, inv2.os, inv2.bare, inv2.base, inv2.hok, rel, q⟩
    refine wpAny_mono (pss.run [] s1 (start N vs) H _ inv start_) ?_ fun _ _ z => z
    intro flow s2 out
    cases flow with
    | next =>
      obtain ⟨τ, H2, inv2, q⟩ := out
      exact close (v := .non) (u := .none) inv2 rfl q
    | ret u =>
      obtain ⟨v, τ, H2, inv2, rel, q⟩ := out
      exact close inv2 rel q
    | brk =>
      obtain ⟨_, _, _, q⟩ := out
      exact q.elim
    | cont =>
      obtain ⟨_, _, _, q⟩ := out
      exact q.elim
/-- the same of a body that nothing leaves -/
theorem FnG.bodyN {x qual : Str} {params : Arguments} {body : List Stmt} {scope : Scope} {dvs : List V} {kws : List (Str × V)} {N : List Str} (F : FunD K x qual params body scope dvs kws f fd) (S : FnScope N ps scope) (len : ∀ vs H Q E, sp vs H Q E → vs.length = ps.length)
    (hb : ∀ (cdv : Value) (A : Around) (outer : List Env) (s : Shared) (H : Hp) (vs : List V) (Q : VK) (E : XK), RoomG k (A.deeper (envOfC qual scope s.heap.objs.size f cdv)) → sp vs H Q E →
      ∃ t, PSs (cxOf CX0 P w K mg base N qual scope f cdv A outer s H E).nox body t ∧ t { nx := fun _ H' => Q .non H', rt := Q } (start N vs) H) : FnG P w K mg base CX0 (k + 1) f fd ps sp :=
  FnG.body F S len fun cdv A outer s H vs Q E r p => by
    obtain ⟨t, h, q⟩ := hb cdv A outer s H vs Q E r p
    exact ⟨t, h.nox, q⟩
end
/-- where a law's call begins: an abstract heap that tells the script at most -/
theorem law_start {P : Program} {w : World} {K : PySem.W.Frag} {mg mb : Str → Option Value} {a : Addr} {s : Shared} {vs : List Value} {ns : List Int} (kin : K.In s.heap) (top : s.heap.Ns mainGlobals mg) (blt : s.heap.Ns builtinsNs mb) (boot : ∀ y : Str, y ≠ "__name__" → mb y = bootBuiltins y)
    (lim : s.heap.NoLimit) (gens : s.gens = #[]) (script : s.heap.get? a = some { cls := .type "list", data := .seq vs.toArray }) (whole : IntsAre vs ns) (short : ns.length ≤ sizeLine) :
    ∃ (H : Hp) (base : Heap), SqL K H a (ns.map V.int) ∧ K.In base ∧ base.Ns mainGlobals mg ∧ Env0 P w K mg base callerA [] s H ∧
      ∀ (Z : V → Prop) (u : Value) (s2 : Shared), CE [] P w H s (fun v _ => Z v) u s2 → (∃ v, RelV v u ∧ Z v) ∧ OldK s.heap s2.heap ∧ s2.os = s.os ∧ AllBare s2.gens := by
  have rel := vals_ints whole
  have lenV := whole.length
  -- any H that tells no more than the script, and that only where the written part does not hold it, will do
  have fits : ∀ H : Hp, (∀ b, H b = none ∨ ∃ o xs, H b = some (.frz o (.lst xs))) → SqL K H a (ns.map V.int) → HOk P w H s.heap → (∀ b, b ≠ a → H b = none) → (∀ o, K.lookup a = some o → H a = none) →
      ∃ (H : Hp) (base : Heap), SqL K H a (ns.map V.int) ∧ K.In base ∧ base.Ns mainGlobals mg ∧ Env0 P w K mg base callerA [] s H ∧
        ∀ (Z : V → Prop) (u : Value) (s2 : Shared), CE [] P w H s (fun v _ => Z v) u s2 → (∃ v, RelV v u ∧ Z v) ∧ OldK s.heap s2.heap ∧ s2.os = s.os ∧ AllBare s2.gens := by
    intro H only seq ok else_ apart
    have dictFree : ∀ (b : Addr) (o : Obj) (es : Array DictEntry) (n : Nat), s.heap.get? b = some o → o.data = .dict es n → H b = none := by
      intro b o es n e d
      by_cases z : b = a
      · subst z
        rw [script] at e
        injection e with e
        subst e
        cases d
      · exact else_ b z
    have nsOf : ∀ {b : Addr} {m : Str → Option Value}, s.heap.Ns b m → (hidT s.heap H).Ns b m := by
      rintro b m ⟨o, es, n, e, d, r⟩
      exact ⟨o, es, n, hidT_get e (dictFree b o es n e d), d, r⟩
    have kinB : K.In (hidT s.heap H) := by
      intro b o e
      refine hidT_get (kin b o e) ?_
      by_cases z : b = a
      · subst z
        exact apart o e
      · exact else_ b z
    obtain ⟨mc, lim1, lim2⟩ := lim
    refine ⟨H, hidT s.heap H, seq, kinB, nsOf top, ⟨rfl, ⟨kinB, nsOf top, ⟨mb, nsOf blt, boot⟩, mc, nsOf lim1, lim2⟩, fun b o e => of_hidT e, Nat.le_of_eq (hidT_size _ _), trivial, fun b hb => (nomatch (show b ∈ ([] : List Addr) from hb)), ok, .of_eq gens⟩, ?_⟩
    rintro Z u s2 ⟨v, H2, os, bare, un, ok2, r, z⟩
    refine ⟨⟨v, r, z⟩, OldK.of_keep fun b o e => ?_, os, bare⟩
    rcases only b with n | ⟨o1, xs, n⟩
    · exact un.keep b o e n (fun y => nomatch (show b ∈ ([] : List Addr) from y)) (fun y => nomatch y)
    · obtain ⟨e1, _⟩ := ok b _ n
      obtain ⟨e2, _⟩ := ok2 b _ (un.frzs b o1 _ n)
      rw [e] at e1
      injection e1 with e1
      subst e1
      exact e2
  cases kl : K.lookup a with
  | some o =>
    have e := kin a o kl
    rw [script] at e
    injection e with e
    subst e
    exact fits (fun _ => none) (fun _ => .inl rfl) (.inr ⟨_, vs.toArray, _, kl, rfl, rfl, rfl, by rw [List.size_toArray, lenV]; exact short, by simpa using rel⟩) (fun _ _ z => nomatch z) (fun _ _ => rfl) fun _ _ => rfl
  | none =>
    refine fits (fun b => if b = a then some (.frz { cls := .type "list", data := .seq vs.toArray } (.lst (ns.map V.int))) else none) ?_ (.inl (.inr ⟨_, if_pos rfl⟩)) ?_ (fun b n => if_neg n) fun o z => ?_
    · intro b
      by_cases z : b = a
      · exact .inr ⟨_, _, if_pos z⟩
      · exact .inl (if_neg z)
    · intro b u q
      by_cases z : b = a
      · subst z
        have q := (if_pos rfl).symm.trans q
        injection q with q
        subst q
        exact ⟨script, by rw [List.length_map]; exact short, vs, _, rel, script⟩
      · have q := (if_neg z).symm.trans q
        cases q
    · rw [kl] at z
      cases z
/-- the goal that the head leaves, from the law's promise; the script's numbers have at most 2 ^ 20 bits -/
theorem walkG {l : PySem.W.OpenLaw} {n k : Nat} {q : Program} {loose : List Str} {XP : (Str → Option Value) → Heap → Prop} {YP : World → Heap → Prop} {d : DefRec} {K : Params → PySem.W.Frag} {x : Str} (hn : l.most = some n) (hn2 : n ≤ sizeLine) (hdf : d.params.defaults = []) (room : Room k callerA)
    (hY : ∀ (w : World) (h : Heap), YP w h → (K w.params).In h)
    (F : ∀ (w : World) (mg : Str → Option Value) (fa : Addr) (h : Heap), (K w.params).In h → h.Ns mainGlobals mg → mg d.name = some (.ref fa) →
      ∃ fd : FuncData, (∀ (s : Shared) (u : Value), BindsTo s fd ⟨[u], []⟩ [(x, u)]) ∧ ∀ base : Heap, (K w.params).In base → base.Ns mainGlobals mg → FnG l.prog w (K w.params) mg base CX0 k fa fd [x] (fun vs H Q _ => ∃ (a : Addr) (ns : List Int), vs = [.ref a] ∧ SqL (K w.params) H a (ns.map V.int) ∧ ns.length ≤ n ∧ ∀ H', Q (.bl true) H')) :
    PySem.W.WalkO q loose XP YP l.row.toRowW d [] (fun f vs => PySem.call f vs) := by
  refine Att.attach_call hn hdf ?_
  intro w s₀ s₁ mg mb fa o pm cd doc a vs ns G Y _ _ _ hmg script whole short gens
  have kin := hY w _ Y
  obtain ⟨fd, bind, prom⟩ := F w mg fa _ kin G.T.g hmg
  obtain ⟨H, base, seq, kinB, nsB, env, fin⟩ := law_start (P := l.prog) (w := w) kin G.T.g G.T.b G.T.builtins G.T.nolimit gens script whole (Nat.le_trans short hn2)
  refine codeAny_mono ((prom base kinB nsB).run callerA [] s₁ H ⟨[.ref a], []⟩ [.ref a] [.ref a] (fun v _ => v = .bl true) (fun _ _ _ => False) ⟨room, rfl⟩ env (bind s₁ (.ref a)) (.cons rfl .nil) ⟨a, ns, rfl, seq, short, fun _ => rfl⟩) ?_
  intro r s2 out
  cases r with
  | error e => exact out.elim
  | ok flow =>
    cases flow with
    | ret u =>
      obtain ⟨⟨v, rv, z⟩, h1, h2, h3⟩ := fin (fun v => v = .bl true) u s2 out
      subst z
      obtain rfl : u = Value.bool true := rv
      exact ⟨rfl, h1, h2, h3⟩
    | next => exact out.elim
    | brk => exact out.elim
    | cont => exact out.elim
end Vx
/-! # third part: what a def computes, as a plain function with refusals -/
namespace Vx
open PySem PySem.Spec PyProof.Rows L2
inductive Rx (α : Type) where
  | ok (a : α)
  | er (e : Nat)
  | bad
def Rx.bind {α β : Type} (m : Rx α) (f : α → Rx β) : Rx β :=
  match m with
  | .ok a => f a
  | .er e => .er e
  | .bad => .bad
/-- what is wanted of an outcome -/
@[irreducible] def cW {α : Type} (m : Rx α) (K : α → Prop) (E : Nat → Prop) : Prop :=
  match m with
  | .ok a => K a
  | .er e => E e
  | .bad => False
def grd {α : Type} (p : Prop) [Decidable p] (m : Rx α) : Rx α := if p then m else .bad
/-- within a comprehension nothing may be raised -/
def noEr {α : Type} (m : Rx α) : Rx α :=
  match m with
  | .ok a => .ok a
  | _ => .bad
/-- what the clause does not name may not come -/
def tryR {α β : Type} (m : Rx α) (cs : List Nat) (f : α → Rx β) (h : Nat → Rx β) : Rx β :=
  match m with
  | .ok a => f a
  | .er e => if e ∈ cs then h e else .bad
  | .bad => .bad
def bnd {α β : Type} (a : α) (f : α → Rx β) : Rx β := f a
inductive Lp (σ ρ : Type) where
  | go (s : σ)
  | bk (s : σ)
  | rt (r : ρ)
def Lp.aft {σ ρ τ : Type} (l : Lp σ ρ) (kr : ρ → Rx τ) (k : σ → Rx τ) : Rx τ :=
  match l with
  | .go s => k s
  | .bk s => k s
  | .rt r => kr r
def forS {σ α : Type} : List α → σ → (σ → α → Rx σ) → Rx σ
  | [], s, _ => .ok s
  | x :: r, s, f => (f s x).bind fun s' => forS r s' f
def forR {σ α ρ : Type} : List α → σ → (σ → α → Rx (Lp σ ρ)) → Rx (Lp σ ρ)
  | [], s, _ => .ok (.go s)
  | x :: r, s, f => (f s x).bind fun l =>
    match l with
    | .go s' => forR r s' f
    | .bk s' => .ok (.go s')
    | .rt v => .ok (.rt v)
def whileR {σ ρ : Type} : Nat → σ → (σ → Rx (Lp σ ρ)) → Rx (Lp σ ρ)
  | 0, _, _ => .bad
  | n + 1, s, f => (f s).bind fun l =>
    match l with
    | .go s' => whileR n s' f
    | .bk s' => .ok (.go s')
    | .rt v => .ok (.rt v)
def mapA {α β : Type} : List α → List β → (α → Rx β) → Rx (List β)
  | [], acc, _ => .ok acc
  | x :: r, acc, f => grd (acc.length ≤ 1000000) ((f x).bind fun y => mapA r (acc ++ [y]) f)
def mapF {α β : Type} : List α → List β → (α → Rx (Option β)) → Rx (List β)
  | [], acc, _ => .ok acc
  | x :: r, acc, f => grd (acc.length ≤ 1000000) ((f x).bind fun y =>
    match y with
    | some z => mapF r (acc ++ [z]) f
    | none => mapF r acc f)
section
variable {α β γ σ ρ τ : Type} {K : α → Prop} {E : Nat → Prop}
theorem cW_ok {a : α} (h : cW (.ok a) K E) : K a := by
  unfold cW at h
  exact h
theorem cW_er {e : Nat} (h : cW (.er e : Rx α) K E) : E e := by
  unfold cW at h
  exact h
theorem cW_bad {C : Prop} (h : cW (.bad : Rx α) K E) : C := by
  unfold cW at h
  exact h.elim
theorem cW_mk {a : α} (h : K a) : cW (.ok a) K E := by
  unfold cW
  exact h
theorem cW_mkE {e : Nat} (h : E e) : cW (.er e : Rx α) K E := by
  unfold cW
  exact h
theorem cW_gen {m : Rx α} (h : cW m K E) : ∃ (K' : α → Prop) (E' : Nat → Prop), (∀ v, K' v → K v) ∧ (∀ e, E' e → E e) ∧ cW m K' E' := ⟨K, E, fun _ x => x, fun _ x => x, h⟩
theorem cW_grd {p : Prop} {dp : Decidable p} {m : Rx α} (h : cW (grd p m) K E) : p ∧ cW m K E := by
  unfold grd at h
  split at h
  · exact ⟨‹p›, h⟩
  · exact cW_bad h
theorem cW_pos {p : Prop} {dp : Decidable p} {a b : Rx α} (c : p) (h : cW (if p then a else b) K E) : cW a K E := by rwa [if_pos c] at h
theorem cW_neg {p : Prop} {dp : Decidable p} {a b : Rx α} (c : ¬ p) (h : cW (if p then a else b) K E) : cW b K E := by rwa [if_neg c] at h
theorem cW_call {m : Rx β} {f : β → Rx α} {K2 : β → Prop} {E2 : Nat → Prop} (h : cW (m.bind f) K E) (ho : ∀ v, cW (f v) K E → K2 v) (he : ∀ e, E e → E2 e) : cW m K2 E2 := by
  cases m with
  | ok a => exact cW_mk (ho a h)
  | er e => exact cW_mkE (he e (cW_er (α := α) h))
  | bad => exact cW_bad (α := α) h
theorem cW_push {m : Rx β} {f : β → Rx α} (h : cW (m.bind f) K E) : ∃ K2 : β → Prop, (∀ v, K2 v → cW (f v) K E) ∧ cW m K2 E := ⟨fun v => cW (f v) K E, fun _ x => x, cW_call h (fun _ x => x) fun _ x => x⟩
theorem cW_name {m : Rx α} (h : cW m K E) : ∃ K' : α → Prop, (∀ v, K' v → K v) ∧ cW m K' E := ⟨K, fun _ x => x, h⟩
theorem cW_noEr {m : Rx α} (h : cW (noEr m) K E) : cW m K (fun _ => False) := by
  cases m with
  | ok a => exact cW_mk (cW_ok (α := α) h)
  | er e => exact cW_bad (α := α) h
  | bad => exact cW_bad (α := α) h
theorem cW_try {m : Rx β} {cs : List Nat} {f : β → Rx α} {g : Nat → Rx α} {K2 : β → Prop} {E2 : Nat → Prop} (h : cW (tryR m cs f g) K E) (ho : ∀ v, cW (f v) K E → K2 v) (hc : ∀ e, e ∈ cs → cW (g e) K E → E2 e) : cW m K2 E2 := by
  cases m with
  | ok a => exact cW_mk (ho a h)
  | er e =>
    have h2 : cW (if e ∈ cs then g e else .bad) K E := h
    by_cases q : e ∈ cs
    · exact cW_mkE (hc e q (cW_pos q h2))
    · exact cW_bad (cW_neg q h2)
  | bad => exact cW_bad (α := α) h
theorem cW_bnd {a : β} {f : β → Rx α} (h : cW (bnd a f) K E) : cW (f a) K E := h
theorem cW_negB {b : Bool} {x y : Rx α} (c : b = false) (h : cW (if b = true then x else y) K E) : cW y K E := cW_neg (by rw [c]; decide) h
theorem cW_forS {xs : List β} {i : Nat} {x : β} {s : α} {f : α → β → Rx α} (hx : xs[i]? = some x) (h : cW (forS (xs.drop i) s f) K E) : cW (f s x) (fun s' => cW (forS (xs.drop (i + 1)) s' f) K E) E := by
  rw [List.drop_eq_getElem?_toList_append, hx] at h
  exact cW_call h (fun _ z => z) fun _ z => z
theorem cW_forS0 {xs : List β} {n : Nat} {s : α} {f : α → β → Rx α} (hn : n = xs.length) (h : cW (forS (xs.drop n) s f) K E) : K s := by
  subst hn
  rw [List.drop_length] at h
  exact cW_ok h
theorem cW_forR {K : Lp σ ρ → Prop} {xs : List β} {i : Nat} {x : β} {s : σ} {f : σ → β → Rx (Lp σ ρ)} (hx : xs[i]? = some x) (h : cW (forR (xs.drop i) s f) K E) :
    cW (f s x) (fun l => match l with | .go s' => cW (forR (xs.drop (i + 1)) s' f) K E | .bk s' => K (.go s') | .rt v => K (.rt v)) E := by
  rw [List.drop_eq_getElem?_toList_append, hx] at h
  refine cW_call h (fun l z => ?_) fun _ z => z
  cases l with
  | go s' => exact z
  | bk s' => exact cW_ok (K := K) (a := .go s') z
  | rt v => exact cW_ok (K := K) (a := .rt v) z
theorem cW_forR0 {K : Lp σ ρ → Prop} {xs : List β} {n : Nat} {s : σ} {f : σ → β → Rx (Lp σ ρ)} (hn : n = xs.length) (h : cW (forR (xs.drop n) s f) K E) : K (.go s) := by
  subst hn
  rw [List.drop_length] at h
  exact cW_ok h
theorem cW_whileR {K : Lp σ ρ → Prop} {m : Nat} {s : σ} {f : σ → Rx (Lp σ ρ)} (h : cW (whileR m s f) K E) :
    ∃ n, m = n + 1 ∧ cW (f s) (fun l => match l with | .go s' => cW (whileR n s' f) K E | .bk s' => K (.go s') | .rt v => K (.rt v)) E := by
  cases m with
  | zero => exact cW_bad h
  | succ n =>
    refine ⟨n, rfl, cW_call h (fun l z => ?_) fun _ z => z⟩
    cases l with
    | go s' => exact z
    | bk s' => exact cW_ok (K := K) (a := .go s') z
    | rt v => exact cW_ok (K := K) (a := .rt v) z
theorem cW_mapA {K : List α → Prop} {xs : List β} {acc : List α} {i : Nat} {x : β} {f : β → Rx α} (hx : xs[i]? = some x) (h : cW (mapA (xs.drop i) acc f) K E) :
    acc.length ≤ 1000000 ∧ cW (f x) (fun y => cW (mapA (xs.drop (i + 1)) (acc ++ [y]) f) K E) E := by
  rw [List.drop_eq_getElem?_toList_append, hx] at h
  obtain ⟨z, h⟩ := cW_grd h
  exact ⟨z, cW_call h (fun _ z => z) fun _ z => z⟩
theorem cW_mapA0 {K : List α → Prop} {xs : List β} {acc : List α} {n : Nat} {f : β → Rx α} (hn : n = xs.length) (h : cW (mapA (xs.drop n) acc f) K E) : K acc := by
  subst hn
  rw [List.drop_length] at h
  exact cW_ok h
theorem cW_mapF {K : List α → Prop} {xs : List β} {acc : List α} {i : Nat} {x : β} {f : β → Rx (Option α)} (hx : xs[i]? = some x) (h : cW (mapF (xs.drop i) acc f) K E) :
    acc.length ≤ 1000000 ∧ cW (f x) (fun y => match y with | some z => cW (mapF (xs.drop (i + 1)) (acc ++ [z]) f) K E | none => cW (mapF (xs.drop (i + 1)) acc f) K E) E := by
  rw [List.drop_eq_getElem?_toList_append, hx] at h
  obtain ⟨z, h⟩ := cW_grd h
  refine ⟨z, cW_call h (fun y z => ?_) fun _ z => z⟩
  cases y with
  | none => exact z
  | some w => exact z
theorem cW_mapF0 {K : List α → Prop} {xs : List β} {acc : List α} {n : Nat} {f : β → Rx (Option α)} (hn : n = xs.length) (h : cW (mapF (xs.drop n) acc f) K E) : K acc := by
  subst hn
  rw [List.drop_length] at h
  exact cW_ok h
end
/-- the numbers of a range -/
def rng (lo : Int) (n : Nat) : List Int := (List.range n).map fun (j : Nat) => lo + (j : Int)
theorem rng_get {lo : Int} {n i : Nat} (h : i < n) : (rng lo n)[i]? = some (lo + (i : Int)) := by
  unfold rng
  rw [List.getElem?_map, List.getElem?_range h] <;> rfl
theorem rng_len (lo : Int) (n : Nat) : (rng lo n).length = n := by
  unfold rng
  rw [List.length_map, List.length_range]

def rngD (lo : Int) (n : Nat) : List Int := (List.range n).map fun (j : Nat) => lo + (j : Int) * (-1)
theorem rngD_get {lo : Int} {n i : Nat} (h : i < n) : (rngD lo n)[i]? = some (lo + (i : Int) * (-1)) := by
  unfold rngD
  rw [List.getElem?_map, List.getElem?_range h] <;> rfl
theorem rngD_len (lo : Int) (n : Nat) : (rngD lo n).length = n := by
  unfold rngD
  rw [List.length_map, List.length_range]

/-! ### calls that may raise -/
/-- what a call with n values and keywords ks gives the parameters -/
structure Bnd (K : PySem.W.Frag) (fd : FuncData) (ps : List Str) (n : Nat) (ks : List Str) (g : List V → List V → List V) : Prop where
  to : ∀ (s : Shared) (us ws : List Value) (vs zs : List V), K.In s.heap → vs.length = n → zs.length = ks.length → Vals vs us → Vals zs ws → ∃ vv : List Value, BindsTo s fd ⟨us, ks.zip ws⟩ (ps.zip vv) ∧ Vals (g vs zs) vv
theorem Bnd.of_kbn {K : PySem.W.Frag} {fd : FuncData} {ps ks : List Str} {n : Nat} {g : List Value → List Value → List Value} {gV : List V → List V → List V} (b : KBn K fd ps n ks g gV) : Bnd K fd ps n ks gV :=
  ⟨fun s us ws vs zs X l1 l2 r rz => ⟨g us ws, b.to s us ws X (r.length.symm.trans l1) (rz.length.symm.trans l2), b.rel r rz⟩⟩
theorem Bnd.all {K : PySem.W.Frag} {fd : FuncData} {ps ks : List Str} {n : Nat} {g : List V → List V → List V} (h : ∀ (us ws : List Value) (vs zs : List V), vs.length = n → zs.length = ks.length → Vals vs us → Vals zs ws →
    ∃ vv : List Value, bindArgs fd ⟨us, ks.zip ws⟩ = pure (ps.zip vv) ∧ Vals (g vs zs) vv) : Bnd K fd ps n ks g :=
  ⟨fun s us ws vs zs _ l1 l2 r rz => by
    obtain ⟨vv, e, q⟩ := h us ws vs zs l1 l2 r rz
    exact ⟨vv, BindsTo.of_eq e, q⟩⟩
abbrev Pat := Nat × List Str × (List V → List V → List V)
def Bnd1 (K : PySem.W.Frag) (fd : FuncData) (ps : List Str) (p : Pat) : Prop := Bnd K fd ps p.1 p.2.1 p.2.2
section
variable {P : Program} {w : World} {K : PySem.W.Frag} {mg : Str → Option Value} {base : Heap}
/-- a def of the top, with the ways it is called -/
structure DefX (K : PySem.W.Frag) (mg : Str → Option Value) (x : Str) (st : Stmt) (ps : List Str) (pats : List Pat) : Prop where
  ex : ∃ (f : Addr) (fd : FuncData) (dvs : List V) (kws : List (Str × V)), FunD K x x (defArgs st) (defBody st) (defScope st) dvs kws f fd ∧ mg x = some (.ref f) ∧ ∀ p ∈ pats, Bnd1 K fd ps p
structure CalX (P : Program) (w : World) (K : PySem.W.Frag) (mg : Str → Option Value) (base : Heap) (k : Nat) (x : Str) (sp : Sp) (pats : List Pat) : Prop where
  ex : ∃ (f : Addr) (fd : FuncData) (ps : List Str), FnG P w K mg base (L2.CX P w) k f fd ps sp ∧ mg x = some (.ref f) ∧ PySem.W.keepIn K (.ref f) = true ∧ ∀ p ∈ pats, Bnd1 K fd ps p
abbrev BodyX (P : Program) (w : World) (K : PySem.W.Frag) (mg : Str → Option Value) (base : Heap) (x : Str) (st : Stmt) (N : List Str) (k : Nat) (sp : Sp) : Prop :=
  ∀ (f : Addr) (cdv : Value) (A : Around) (outer : List Env) (s : Shared) (H : Hp) (vs : List V) (Q : VK) (E : XK), RoomG k (A.deeper (envOfC x (defScope st) s.heap.objs.size f cdv)) → sp vs H Q E →
    ∃ t, PSs (cxOf (L2.CX P w) P w K mg base N x (defScope st) f cdv A outer s H E) (defBody st) t ∧ t { nx := fun _ H' => Q .non H', rt := Q } (start N vs) H
theorem DefX.ok {x : Str} {st : Stmt} {N ps : List Str} {pats : List Pat} {k : Nat} {sp : Sp} (D : DefX K mg x st ps pats) (S : FnScope N ps (defScope st)) (len : ∀ vs H Q E, sp vs H Q E → vs.length = ps.length)
    (hbody : BodyX P w K mg base x st N k sp) : CalX P w K mg base (k + 1) x sp pats := by
  obtain ⟨f, fd, dvs, kws, F, hm, b⟩ := D.ex
  exact ⟨f, fd, ps, FnG.body F S len (fun cdv A outer s H vs Q E hr h => hbody f cdv A outer s H vs Q E hr h), hm, F.kp, b⟩
end
section
variable {X : Cx} {k j n : Nat} {f : Addr} {fd : FuncData} {ps ks : List Str} {g : List V → List V → List V} {sp : Sp} {x : Str} {pos p : Pos} {e : Expr} {es : List Expr} {kws : List Keyword} {t tk : TA} {W : WX}
theorem run_X {pins : List (Addr × Obj)} {σ : L2.St} {H : Hp} {s : Shared} {Q : VK} {us ws : List Value} {vs zs : List V} (F : FnG X.prog X.w X.K X.mg X.base (L2.CX X.prog X.w) k f fd ps sp) (hr : RoomG k X.A) (hb : Bnd X.K fd ps n ks g) (tkW : Takes X W)
    (I : Inv X pins σ H s) (r : Vals vs us) (rz : Vals zs ws) (l1 : vs.length = n) (l2 : zs.length = ks.length) (h : sp (g vs zs) H Q (WE W σ)) :
    wpAny (model X.prog X.w) X.A (call (.ref f) us (ks.zip ws)) (EP X pins σ Q) X.xe s := by
  obtain ⟨vv, b, r2⟩ := hb.to s us ws vs zs I.kIn l1 l2 r rz
  refine wpAny_call (codeAny_mono (F.run X.A X.stack s H ⟨us, ks.zip ws⟩ vv (g vs zs) Q (WE W σ) hr I.env0 b r2 h) fun rr s' hq => ?_)
  cases rr with
  | error er => exact passAt tkW σ pins H s er s' I hq
  | ok fl =>
    cases fl with
    | ret u => exact I.after hq
    | next => exact hq.elim
    | brk => exact hq.elim
    | cont => exact hq.elim
/-- f(e, .., k = v, ..) -/
def tCallX (n m : Nat) (sp : Sp) (g : List V → List V → List V) (W : WX) (t tk : TA) : TE := fun σ H Q => t σ H fun vs H1 => tk σ H1 fun zs H2 => vs.length = n ∧ zs.length = m ∧ sp (g vs zs) H2 Q (WE W σ)
theorem vx_callX {pats : List Pat} (c : CalX X.prog X.w X.K X.mg X.base k x sp pats) (pt : Pat) (hpt : pt ∈ pats) (hr : RoomG j X.A) (hk : k ≤ j) (tkW : Takes X W) (hg : Gl X x) (ha : PA X (e :: es) t) (hkw : PK X kws tk)
    (hall : (backToKw pos (keywordEach kws X.env)).all (·.1.isSome) = true := by rfl) (hks : (backToKw pos (keywordEach kws X.env)).filterMap (·.1) = pt.2.1 := by rfl)
    (hdb : (x == ("__debug__" : Str)) = false := by decide) (he : starEach (e :: es) X.env = (false, eval e X.env) :: starEach es X.env := by rfl)
    (hpl : ((backTo pos (starEach (e :: es) X.env)).any (·.1) || (backToKw pos (keywordEach kws X.env)).any (·.1.isNone)) = false := by rfl) :
    PE X (.Call (.Name x p) (e :: es) kws pos) (tCallX pt.1 pt.2.1.length sp pt.2.2 W t tk) := by
  obtain ⟨f, fd, ps, F, hm, kp, b⟩ := c.ex
  refine ⟨fun pins s σ H Q I h => ?_⟩
  refine wpAny_Call_Name_kw (ld_glob I hg hm ?_ hdb)
  refine PySem.W.callWith_KW (h₀ := X.base) I.ok.mod.kin kp hall (thn (ha.run pos pins s σ H _ I h) fun us s1 ⟨vs, H1, I1, r, q⟩ => ?_) hpl he
  refine thn (hkw.run pos pins s1 σ H1 _ I1 q) fun ws s2 ⟨zs, H2, I2, rz, l1, l2, q2⟩ => ⟨I2.kIn, ?_⟩
  rw [hks]
  exact run_X F (hr.low hk) (b pt hpt) tkW I2 r rz l1 l2 q2
theorem vx_callX0 {pats : List Pat} (c : CalX X.prog X.w X.K X.mg X.base k x sp pats) (pt : Pat) (hpt : pt ∈ pats) (hr : RoomG j X.A) (hk : k ≤ j) (tkW : Takes X W) (hg : Gl X x) (hks : pt.2.1 = [] := by rfl)
    (hdb : (x == ("__debug__" : Str)) = false := by decide) : PE X (.Call (.Name x p) [] [] pos) (tCallX pt.1 pt.2.1.length sp pt.2.2 W tNil tNil) := by
  obtain ⟨f, fd, ps, F, hm, kp, b⟩ := c.ex
  refine ⟨fun pins s σ H Q I h => ?_⟩
  refine wpAny_Call_Name_kw (ld_glob I hg hm ?_ hdb)
  obtain ⟨l1, l2, q2⟩ := h
  have hz := run_X (us := []) (ws := []) F (hr.low hk) (b pt hpt) tkW I .nil .nil l1 l2 q2
  rw [hks] at hz
  exact PySem.W.callWith_K0 I.kIn kp hz
end
/-! ### borrowed things -/
theorem Sep.bM {M : List Addr} {H0 G0 G H : Hp} {O : List (Addr)} (S : Sep M H0 G0 G H O) : Same (hideL M H0) H := fun b o e => by
  by_cases h : b ∈ M
  · rw [hideL_in h] at e
    cases e
  · rw [hideL_out h] at e
    exact S.base b o e h
theorem b_ne {M : List Addr} {H0 G0 G H : Hp} {O : List Addr} {a b : Addr} {o : HO} (h : (hideL M H0) a = some o) (S : Sep M H0 G0 G H O) (hb : b ∈ O) : a ≠ b := fun z => by
  subst z
  rcases (S.ow a hb).2.2 with q | q
  · rw [hideL_in q] at h
    cases h
  · by_cases hM : a ∈ M
    · rw [hideL_in hM] at h
      cases h
    · rw [hideL_out hM, q] at h
      cases h
theorem hide0 {H : Hp} : hideL [] H = H := by
  funext b
  unfold hideL
  rw [if_neg List.not_mem_nil]
theorem hide_nil {H : Hp} {a : Addr} {o : HO} (h : H a = some o) : (hideL [] H) a = some o := by
  rw [hide0]
  exact h
theorem Rp.hide_nil {H : Hp} {v : V} {d : PyData} (h : Rp H v d) : Rp (hideL [] H) v d := by
  rw [hide0]
  exact h
theorem Sep.startM {M : List Addr} {G H : Hp} (e : Same G H) (hM : ∀ a ∈ M, H a ≠ none) (hG : ∀ a ∈ M, G a = none) : Sep M H G G H M :=
  ⟨fun _ _ e _ => e, hM, e, Same.refl _, fun _ _ e => e, fun a ha => ⟨hG a ha, hM a ha, .inl ha⟩⟩
theorem Sep.gno {M : List Addr} {H0 G0 G H : Hp} {O L : List Addr} (S : Sep M H0 G0 G H O) (h : ∀ a ∈ L, a ∈ O) : ∀ a ∈ L, G a = none := fun a ha => (S.ow a (h a ha)).1
theorem RpAll.ixD {α : Type} [Inhabited α] {f : α → PyData} {H : Hp} {vs : List V} {xs : List α} {k : Int} (r : RpAll H vs (xs.map f)) (h : -(xs.length : Int) ≤ k ∧ k < xs.length) : ∃ v, atI vs k = some v ∧ Rp H v (f (itD xs k)) := by
  obtain ⟨v, x, h1, h2, h3⟩ := RpAll.ix r h
  refine ⟨v, h1, ?_⟩
  unfold itD
  rw [h2]
  exact h3
theorem tru_all {α : Type} [DecidableEq α] {f : α → PyData} {H : Hp} {vs : List V} {xs : List α} (r : RpAll H vs (xs.map f)) : (!decide (xs = [])) = !vs.isEmpty := by
  have h := r.len
  rw [List.length_map] at h
  cases xs <;> cases vs <;> simp_all
theorem ix_nn {α : Type} {xs : List α} {k : Int} (h0 : 0 ≤ k) (h1 : k < xs.length) : -(xs.length : Int) ≤ k ∧ k < xs.length := ⟨by omega, h1⟩
theorem all_nilQ {α : Type} {P : α → Prop} : ∀ x ∈ ([] : List α), P x := fun x h => by cases h
theorem all_consQ {α : Type} {P : α → Prop} {a : α} {l : List α} (h : P a) (t : ∀ x ∈ l, P x) : ∀ x ∈ a :: l, P x := fun x hx => by
  rcases List.mem_cons.mp hx with rfl | hx
  · exact h
  · exact t x hx
theorem mem_one {a b : Nat} (h : a ∈ [b]) : a = b := by simpa using h
theorem mem_cons2 {a b : Nat} {l : List Nat} (h : a ∈ b :: l) : a = b ∨ a ∈ l := List.mem_cons.mp h
theorem len0 {α : Type} {l : List α} (h : l.length = 0) : l = [] := List.length_eq_zero_iff.mp h
theorem len1 {α : Type} {l : List α} (h : l.length = 1) : ∃ a, l = [a] := List.length_eq_one_iff.mp h
theorem len_s {α : Type} {l : List α} {n : Nat} (h : l.length = n + 1) : ∃ a r, l = a :: r ∧ r.length = n := by
  cases l with
  | nil => cases h
  | cons a r => exact ⟨a, r, rfl, Nat.succ.inj h⟩
theorem len2 {α : Type} {l : List α} (h : l.length = 2) : ∃ a b, l = [a, b] := by
  obtain ⟨a, r, rfl, h2⟩ := len_s h
  obtain ⟨b, rfl⟩ := len1 h2
  exact ⟨a, b, rfl⟩
theorem len3 {α : Type} {l : List α} (h : l.length = 3) : ∃ a b c, l = [a, b, c] := by
  obtain ⟨a, r, rfl, h2⟩ := len_s h
  obtain ⟨b, c, rfl⟩ := len2 h2
  exact ⟨a, b, c, rfl⟩
theorem len4 {α : Type} {l : List α} (h : l.length = 4) : ∃ a b c d, l = [a, b, c, d] := by
  obtain ⟨a, r, rfl, h2⟩ := len_s h
  obtain ⟨b, c, d, rfl⟩ := len3 h2
  exact ⟨a, b, c, d, rfl⟩
theorem len5 {α : Type} {l : List α} (h : l.length = 5) : ∃ a b c d e, l = [a, b, c, d, e] := by
  obtain ⟨a, r, rfl, h2⟩ := len_s h
  obtain ⟨b, c, d, e, rfl⟩ := len4 h2
  exact ⟨a, b, c, d, e, rfl⟩
theorem len6 {α : Type} {l : List α} (h : l.length = 6) : ∃ a b c d e f, l = [a, b, c, d, e, f] := by
  obtain ⟨a, r, rfl, h2⟩ := len_s h
  obtain ⟨b, c, d, e, f, rfl⟩ := len5 h2
  exact ⟨a, b, c, d, e, f, rfl⟩
theorem len7 {α : Type} {l : List α} (h : l.length = 7) : ∃ a b c d e f g, l = [a, b, c, d, e, f, g] := by
  obtain ⟨a, r, rfl, h2⟩ := len_s h
  obtain ⟨b, c, d, e, f, g, rfl⟩ := len6 h2
  exact ⟨a, b, c, d, e, f, g, rfl⟩
def rLenTK (K : PySem.W.Frag) : List V → Hp → VK → Prop := fun xs H Q => ∃ (p : Addr) (vs : List V) (n : Nat), xs = [.ref p] ∧ SqT K H p vs ∧ vs.length = n ∧ Q (.int (n : Int)) H
theorem call_lenTK {X : Cx} {K : PySem.W.Frag} (hK : X.K = K := by rfl) : CallR X (.builtin "len") (rLenTK K) := by
  subst hK
  intro pins s σ H xs us Q I r h
  obtain ⟨p, vs, n, rfl, hs, hn, q⟩ := h
  exact call_len_seq pins s σ H _ us Q I r ⟨p, _, rfl, Or.inr hs, by rw [hn]; exact q⟩
theorem exm_mk {K : PySem.W.Frag} {S C : Addr} (h1 : PySem.W.subIn K (.ref C) (.type "BaseException") = some true) (h2 : PySem.W.isClsIn K C = true) (h3 : PySem.W.typeIn K (.ref C) = some (.type "type")) (h4 : PySem.W.subIn K (.ref S) (.ref C) = some true) :
    PySem.W.exmOne K (.ref S) (.ref C) = some true := by
  unfold PySem.W.isClsIn at h2
  unfold PySem.W.exmOne
  unfold PySem.W.kitCls
  simp only [h1, h2, h3, h4, beq_self_eq_true, Bool.and_self, if_true]
theorem kit_mk {K : PySem.W.Frag} {S C : Addr} (h2 : PySem.W.isClsIn K C = true) (h3 : PySem.W.typeIn K (.ref C) = some (.type "type")) (h4 : PySem.W.subIn K (.ref S) (.ref C) = some true) :
    PySem.W.kitOne K (.ref S) (.ref C) = some true := by
  unfold PySem.W.isClsIn at h2
  unfold PySem.W.kitOne
  split
  · rfl
  · unfold PySem.W.kitCls
    simp only [h2, h3, h4, beq_self_eq_true, Bool.and_self, if_true]
/-- isinstance(e, C) of the exception in hand -/
def rIsX (K : PySem.W.Frag) (a : Addr) (cls : Value) (d : Option Addr) : List V → Hp → VK → Prop := fun xs H Q => ∃ (D C : Addr) (b : Bool), cls = .ref D ∧ d = none ∧ ExcC K D ∧ xs = [.ref a, .ref C] ∧ PySem.W.kitOne K (.ref D) (.ref C) = some b ∧ Q (.bl b) H
theorem call_isX {X : Cx} {K : PySem.W.Frag} {a : Addr} {cls : Value} {d : Option Addr} {oe : Obj} {pn : List (Addr × Obj)} (hz : Zc cls d oe) (hf : ∃ vs, oe.data = .fields vs) (hK : X.K = K := by rfl) : CallR (X.suite a ((a, oe) :: pn)) (.builtin "isinstance") (rIsX K a cls d) := by
  subst hK
  intro pins s σ H xs us Q I r h
  obtain ⟨D, C, b, rfl, rfl, c, rfl, e, q⟩ := h
  exact call_isE c hz hf pins s σ H _ us Q I r ⟨_, _, b, rfl, fun u z => z, e, q⟩
/-! ### unpacking a list -/
section
variable {X : Cx} {K : PySem.W.Frag} {pos : Pos}
theorem pg_seqK {es : List Expr} {k : Nat} {t : TGs} {n : Nat} (h : PGs X es t) (hc : X.calm = true := by rfl) (hK : X.K = K := by rfl)
    (hn : (assignEach es X.env).length = n := by rfl) (hst : (assignEach es X.env).findIdx? (·.1) = none := by rfl) : PG X (.Tuple es k pos) (gLst K n t) := hK ▸ pg_lst hc h hn hst
end
theorem SqL.cast {K : PySem.W.Frag} {H : Hp} {a : Addr} {xs ys : List V} (h : SqL K H a xs) (e : xs = ys) : SqL K H a ys := e ▸ h
section
variable {α : Type} [Inhabited α] {f : α → V}
theorem unp2 {xs : List α} (h : xs.length = 2) : xs.map f = [f (itD xs 0), f (itD xs 1)] := by
  obtain ⟨a, b, rfl⟩ := len2 h
  rfl
theorem unp3 {xs : List α} (h : xs.length = 3) : xs.map f = [f (itD xs 0), f (itD xs 1), f (itD xs 2)] := by
  obtain ⟨a, b, c, rfl⟩ := len3 h
  rfl
theorem unp4 {xs : List α} (h : xs.length = 4) : xs.map f = [f (itD xs 0), f (itD xs 1), f (itD xs 2), f (itD xs 3)] := by
  obtain ⟨a, b, c, d, rfl⟩ := len4 h
  rfl
theorem unp6 {xs : List α} (h : xs.length = 6) : xs.map f = [f (itD xs 0), f (itD xs 1), f (itD xs 2), f (itD xs 3), f (itD xs 4), f (itD xs 5)] := by
  obtain ⟨a, b, c, d, e, g, rfl⟩ := len6 h
  rfl
theorem unp8 {xs : List α} (h : xs.length = 8) : xs.map f = [f (itD xs 0), f (itD xs 1), f (itD xs 2), f (itD xs 3), f (itD xs 4), f (itD xs 5), f (itD xs 6), f (itD xs 7)] := by
  obtain ⟨a, r, rfl, h2⟩ := len_s h
  obtain ⟨b, c, d, e, g, i, j, rfl⟩ := len7 h2
  rfl
end
/-! ### classes -/
section
variable {P : Program} {w : World} {K : PySem.W.Frag} {mg : Str → Option Value} {base : Heap}
structure MethX (K : PySem.W.Frag) (C : Addr) (q m : Str) (st : Stmt) (ps : List Str) (pats : List Pat) : Prop where
  ex : ∃ (f : Addr) (fd : FuncData) (dvs : List V) (kws : List (Str × V)), FunD K m q (defArgs st) (defBody st) (defScope st) dvs kws f fd ∧ Meth K C m f ∧ ∀ p ∈ pats, Bnd1 K fd ps p
structure InitX (K : PySem.W.Frag) (mg : Str → Option Value) (C : Addr) (cn q : Str) (st : Stmt) (ps : List Str) (pats : List Pat) : Prop where
  ex : ∃ (f : Addr) (fd : FuncData) (dvs : List V) (kws : List (Str × V)), FunD K "__init__" q (defArgs st) (defBody st) (defScope st) dvs kws f fd ∧ Mk K C f ∧ mg cn = some (.ref C) ∧ ∀ p ∈ pats, Bnd1 K fd ps p
structure PropX (K : PySem.W.Frag) (C : Addr) (q m : Str) (st : Stmt) (ps : List Str) (pats : List Pat) : Prop where
  ex : ∃ (r f : Addr) (fd : FuncData) (dvs : List V) (kws : List (Str × V)), FunD K m q (defArgs st) (defBody st) (defScope st) dvs kws f fd ∧ PropOf K C m r f ∧ Binds K fd ps []
structure MetX (P : Program) (w : World) (K : PySem.W.Frag) (mg : Str → Option Value) (base : Heap) (k : Nat) (C : Addr) (m : Str) (sp : Sp) (pats : List Pat) : Prop where
  ex : ∃ (f : Addr) (fd : FuncData) (ps : List Str), Cls K C ∧ Meth K C m f ∧ FnG P w K mg base (L2.CX P w) k f fd ps sp ∧ ∀ p ∈ pats, Bnd1 K fd ps p
structure PropY (P : Program) (w : World) (K : PySem.W.Frag) (mg : Str → Option Value) (base : Heap) (k : Nat) (C : Addr) (m : Str) (sp : Sp) (pats : List Pat) : Prop where
  ex : ∃ (q f : Addr) (fd : FuncData) (ps : List Str), Cls K C ∧ PropOf K C m q f ∧ FnG P w K mg base (L2.CX P w) k f fd ps sp ∧ Binds K fd ps []
structure MakX (P : Program) (w : World) (K : PySem.W.Frag) (mg : Str → Option Value) (base : Heap) (k : Nat) (cn : Str) (C : Addr) (sp : Sp) (pats : List Pat) : Prop where
  ex : ∃ (f : Addr) (fd : FuncData) (ps : List Str), Mk K C f ∧ FnG P w K mg base (L2.CX P w) k f fd ps sp ∧ mg cn = some (.ref C) ∧ ∀ p ∈ pats, Bnd1 K fd ps p
theorem MethX.ok {C : Addr} {q m : Str} {st : Stmt} {N ps : List Str} {pats : List Pat} {k : Nat} {sp : Sp} (D : MethX K C q m st ps pats) (c : Cls K C) (S : FnScope N ps (defScope st)) (len : ∀ vs H Q E, sp vs H Q E → vs.length = ps.length)
    (hbody : BodyX P w K mg base q st N k sp) : MetX P w K mg base (k + 1) C m sp pats := by
  obtain ⟨f, fd, dvs, kws, F, me, b⟩ := D.ex
  exact ⟨f, fd, ps, c, me, FnG.body F S len (fun cdv A outer s H vs Q E hr h => hbody f cdv A outer s H vs Q E hr h), b⟩
theorem PropX.ok {C : Addr} {q m : Str} {st : Stmt} {N ps : List Str} {pats : List Pat} {k : Nat} {sp : Sp} (D : PropX K C q m st ps pats) (c : Cls K C) (S : FnScope N ps (defScope st)) (len : ∀ vs H Q E, sp vs H Q E → vs.length = ps.length)
    (hbody : BodyX P w K mg base q st N k sp) : PropY P w K mg base (k + 1) C m sp pats := by
  obtain ⟨r, f, fd, dvs, kws, F, me, b⟩ := D.ex
  exact ⟨r, f, fd, ps, c, me, FnG.body F S len (fun cdv A outer s H vs Q E hr h => hbody f cdv A outer s H vs Q E hr h), b⟩
theorem InitX.ok {C : Addr} {cn q : Str} {st : Stmt} {N ps : List Str} {pats : List Pat} {k : Nat} {sp : Sp} (D : InitX K mg C cn q st ps pats) (S : FnScope N ps (defScope st)) (len : ∀ vs H Q E, sp vs H Q E → vs.length = ps.length)
    (hbody : BodyX P w K mg base q st N k sp) : MakX P w K mg base (k + 1) cn C sp pats := by
  obtain ⟨f, fd, dvs, kws, F, me, hm, b⟩ := D.ex
  exact ⟨f, fd, ps, me, FnG.body F S len (fun cdv A outer s H vs Q E hr h => hbody f cdv A outer s H vs Q E hr h), hm, b⟩
end
theorem cW_callN {α β : Type} {m : Rx β} {f : β → Rx α} {K : α → Prop} {E : Nat → Prop} {K2 : β → Prop} {E2 : Nat → Prop} (h : cW ((noEr m).bind f) K E) (ho : ∀ v, cW (f v) K E → K2 v) (_ : True) : cW m K2 E2 := by
  cases m with
  | ok a => exact cW_mk (ho a h)
  | er e => exact cW_bad (α := α) h
  | bad => exact cW_bad (α := α) h
section
variable {X : Cx} {k j n : Nat} {f C : Addr} {fd : FuncData} {ps ks : List Str} {g : List V → List V → List V} {sp : Sp} {x m : Str} {pos p apos : Pos} {e o : Expr} {es : List Expr} {kws : List Keyword} {ta : TE} {t tk : TA} {W : WX}
theorem run_mkX {pins : List (Addr × Obj)} {σ : L2.St} {H : Hp} {s : Shared} {Q : VK} {us ws : List Value} {vs zs : List V} (M : Mk X.K C f) (F : FnG X.prog X.w X.K X.mg X.base (L2.CX X.prog X.w) k f fd ps sp) (hr : RoomG (k + 1) X.A) (hb : Bnd X.K fd ps n ks g) (tkW : Takes X W)
    (I : Inv X pins σ H s) (r : Vals vs us) (rz : Vals zs ws) (l1 : vs.length + 1 = n) (l2 : zs.length = ks.length)
    (h : ∀ x dx, H x = none → H dx = none → dx ≠ x → sp (g (.ref x :: vs) zs) (upd (upd H dx (.own x)) x (.ins C dx [])) (fun v H2 => v = .non ∧ Q (.ref x) H2) (WE W σ)) :
    wpAny (model X.prog X.w) X.A (call (.ref C) us (ks.zip ws)) (EP X pins σ Q) X.xe s := by
  have hq := h (s.heap.objs.size + 1) s.heap.objs.size (I.hok.fresh (Nat.le_succ _)) (I.hok.fresh (Nat.le_refl _)) (Nat.ne_of_lt (Nat.lt_succ_self _))
  have I2 := Inv.made (C := C) I
  have r1 : Vals (V.ref (s.heap.objs.size + 1) :: vs) (Value.ref (s.heap.objs.size + 1) :: us) := .cons rfl r
  obtain ⟨vv, b, r2⟩ := hb.to _ (Value.ref (s.heap.objs.size + 1) :: us) ws (V.ref (s.heap.objs.size + 1) :: vs) zs I2.kIn (by rw [List.length_cons, l1]) l2 r1 rz
  refine wpAny_call (make_map (f := f) I.kIn M.makes M.init (beq_iff_eq.mp M.fn) (codeAny_mono (F.run _ X.stack _ _ ⟨Value.ref (s.heap.objs.size + 1) :: us, ks.zip ws⟩ vv _ _ (WE W σ) (hr.made C us (ks.zip ws))
    (I2.env0.make C us (ks.zip ws)) b r2 hq) fun r s' hq' => ?_))
  cases r with
  | error e => exact passAt tkW σ pins _ _ e s' I2 hq'
  | ok fl =>
    cases fl with
    | ret u =>
      obtain ⟨v, H', I3, rv, ev, q3⟩ := I2.after hq'
      subst ev
      exact ⟨rv, ⟨V.ref (s.heap.objs.size + 1), H', I3, rfl, q3⟩⟩
    | next => exact False.elim hq'
    | brk => exact False.elim hq'
    | cont => exact False.elim hq'
/-- C(e, .., k = v, ..) -/
def tMakeX (C : Addr) (n m : Nat) (sp : Sp) (g : List V → List V → List V) (W : WX) (t tk : TA) : TE := fun σ H Q => t σ H fun vs H1 => tk σ H1 fun zs H2 => vs.length + 1 = n ∧ zs.length = m ∧ ∀ x dx, H2 x = none → H2 dx = none → dx ≠ x →
  sp (g (.ref x :: vs) zs) (upd (upd H2 dx (.own x)) x (.ins C dx [])) (fun v H3 => v = .non ∧ Q (.ref x) H3) (WE W σ)
theorem vx_makeX {pats : List Pat} (c : MakX X.prog X.w X.K X.mg X.base k x C sp pats) (pt : Pat) (hpt : pt ∈ pats) (hr : RoomG j X.A) (hk : k + 1 ≤ j) (tkW : Takes X W) (hg : Gl X x) (ha : PA X (e :: es) t) (hkw : PK X kws tk)
    (hall : (backToKw pos (keywordEach kws X.env)).all (·.1.isSome) = true := by rfl) (hks : (backToKw pos (keywordEach kws X.env)).filterMap (·.1) = pt.2.1 := by rfl) (hdb : (x == ("__debug__" : Str)) = false := by decide)
    (he : starEach (e :: es) X.env = (false, eval e X.env) :: starEach es X.env := by rfl) (hpl : ((backTo pos (starEach (e :: es) X.env)).any (·.1) || (backToKw pos (keywordEach kws X.env)).any (·.1.isNone)) = false := by rfl) :
    PE X (.Call (.Name x p) (e :: es) kws pos) (tMakeX C pt.1 pt.2.1.length sp pt.2.2 W t tk) := by
  obtain ⟨f, fd, ps, M, F, hm, b⟩ := c.ex
  refine ⟨fun pins s σ H Q I h => ?_⟩
  refine wpAny_Call_Name_kw (ld_glob I hg hm ?_ hdb)
  refine PySem.W.callWith_KW (h₀ := X.base) I.ok.mod.kin M.kp hall (thn (ha.run pos pins s σ H _ I h) fun us s1 ⟨vs, H1, I1, r, q⟩ => ?_) hpl he
  refine thn (hkw.run pos pins s1 σ H1 _ I1 q) fun ws s2 ⟨zs, H2, I2, rz, l1, l2, q2⟩ => ⟨I2.kIn, ?_⟩
  rw [hks]
  exact run_mkX M F (hr.low hk) (b pt hpt) tkW I2 r rz l1 l2 q2
theorem vx_makeX0 {pats : List Pat} (c : MakX X.prog X.w X.K X.mg X.base k x C sp pats) (pt : Pat) (hpt : pt ∈ pats) (hr : RoomG j X.A) (hk : k + 1 ≤ j) (tkW : Takes X W) (hg : Gl X x) (hks : pt.2.1 = [] := by rfl)
    (hdb : (x == ("__debug__" : Str)) = false := by decide) : PE X (.Call (.Name x p) [] [] pos) (tMakeX C pt.1 pt.2.1.length sp pt.2.2 W tNil tNil) := by
  obtain ⟨f, fd, ps, M, F, hm, b⟩ := c.ex
  refine ⟨fun pins s σ H Q I h => ?_⟩
  refine wpAny_Call_Name_kw (ld_glob I hg hm ?_ hdb)
  obtain ⟨l1, l2, q2⟩ := h
  have hz := run_mkX (us := []) (ws := []) M F (hr.low hk) (b pt hpt) tkW I .nil .nil l1 l2 q2
  rw [hks] at hz
  exact PySem.W.callWith_K0 I.kIn M.kp hz
/-- o.m(e, .., k = v, ..) -/
def tMethX (C : Addr) (m : Str) (n mm : Nat) (sp : Sp) (g : List V → List V → List V) (W : WX) (ta : TE) (t tk : TA) : TE := fun σ H Q => ta σ H fun x H1 => ∃ a dx fs, x = .ref a ∧ H1 a = some (.ins C dx fs) ∧ fs.lookup m = none ∧
  t σ H1 fun vs H2 => tk σ H2 fun zs H3 => (x :: vs).length = n ∧ zs.length = mm ∧ sp (g (x :: vs) zs) H3 Q (WE W σ)
theorem vx_methX {pats : List Pat} {pl : Sem Bool} (c : MetX X.prog X.w X.K X.mg X.base k C m sp pats) (pt : Pat) (hpt : pt ∈ pats) (hr : RoomG j X.A) (hk : k ≤ j) (tkW : Takes X W) (he : PE X o ta) (ha : PA X (e :: es) t) (hkw : PK X kws tk)
    (hall : (backToKw pos (keywordEach kws X.env)).all (·.1.isSome) = true := by rfl) (hks : (backToKw pos (keywordEach kws X.env)).filterMap (·.1) = pt.2.1 := by rfl)
    (hst : starEach (e :: es) X.env = (false, eval e X.env) :: starEach es X.env := by rfl) (hpl : ((backTo pos (starEach (e :: es) X.env)).any (·.1) || (backToKw pos (keywordEach kws X.env)).any (·.1.isNone)) = false := by rfl)
    (ht : eval (.Call (.Attribute o m apos) (e :: es) kws pos) X.env = (do
      let ov ← eval o X.env
      standAt apos.atName
      let (f, first) ← holding [ov] (getMethod ov m pl)
      callWith pos f first (backTo pos (starEach (e :: es) X.env)) (backToKw pos (keywordEach kws X.env))) := by rfl) :
    PE X (.Call (.Attribute o m apos) (e :: es) kws pos) (tMethX C m pt.1 pt.2.1.length sp pt.2.2 W ta t tk) := by
  obtain ⟨f, fd, ps, hc, hm, F, b⟩ := c.ex
  refine ⟨fun pins s σ H Q I h => ?_⟩
  refine PySem.W.methodCall_KW (pl := pl) (thn (he.run pins s σ H _ I h) fun u s1 ⟨x, H1, I1, rx, a, dx, fs, ex, ea, l, q⟩ => ?_) ht
  subst ex
  obtain rfl : u = Value.ref a := rx
  refine getmeth_ok I1 ea hc hm l ?_
  refine PySem.W.callWith_KW (first := [.ref a]) (h₀ := X.base) I.ok.mod.kin hm.kp hall (thn (ha.run pos pins s1 σ H1 _ I1 q) fun us s2 ⟨vs, H2, I2, r, q2⟩ => ?_) hpl hst
  refine thn (hkw.run pos pins s2 σ H2 _ I2 q2) fun ws s3 ⟨zs, H3, I3, rz, l1, l2, q3⟩ => ⟨I3.kIn, ?_⟩
  rw [hks]
  exact run_X (us := .ref a :: us) (vs := .ref a :: vs) F (hr.low hk) (b pt hpt) tkW I3 (.cons rfl r) rz l1 l2 q3
theorem vx_methX0 {pats : List Pat} {pl : Sem Bool} (c : MetX X.prog X.w X.K X.mg X.base k C m sp pats) (pt : Pat) (hpt : pt ∈ pats) (hr : RoomG j X.A) (hk : k ≤ j) (tkW : Takes X W) (he : PE X o ta) (hks : pt.2.1 = [] := by rfl)
    (ht : eval (.Call (.Attribute o m apos) [] [] pos) X.env = (do
      let ov ← eval o X.env
      standAt apos.atName
      let (f, first) ← holding [ov] (getMethod ov m pl)
      callWith pos f first (backTo pos (starEach [] X.env)) (backToKw pos (keywordEach [] X.env))) := by rfl) :
    PE X (.Call (.Attribute o m apos) [] [] pos) (tMethX C m pt.1 pt.2.1.length sp pt.2.2 W ta tNil tNil) := by
  obtain ⟨f, fd, ps, hc, hm, F, b⟩ := c.ex
  refine ⟨fun pins s σ H Q I h => ?_⟩
  refine PySem.W.methodCall_KW (pl := pl) (thn (he.run pins s σ H _ I h) fun u s1 ⟨x, H1, I1, rx, a, dx, fs, ex, ea, l, q⟩ => ?_) ht
  subst ex
  obtain rfl : u = Value.ref a := rx
  refine getmeth_ok I1 ea hc hm l ?_
  obtain ⟨l1, l2, q3⟩ := q
  have hz := run_X (us := [.ref a]) (vs := [.ref a]) (ws := []) F (hr.low hk) (b pt hpt) tkW I1 (.cons rfl .nil) .nil l1 l2 q3
  rw [hks] at hz
  exact PySem.W.callWith_K0 (first := [.ref a]) I1.kIn hm.kp hz
theorem vx_propX {pats : List Pat} (c : PropY X.prog X.w X.K X.mg X.base k C m sp pats) (hr : RoomG j X.A) (hk : k + 1 ≤ j) (he : PE X o ta) (hab : attributeBase o m X.env (eval o X.env) = eval o X.env := by rfl) : PE X (.Attribute o m pos) (tProp C sp [] E0 ta) := by
  obtain ⟨q, f, fd, ps, cls, prop, F, bind⟩ := c.ex
  constructor
  intro pins s σ H Q I h
  refine attr_of hab (thn (he.run pins s σ H _ I h) ?_)
  rintro u s1 ⟨x, H1, I1, rx, a, dx, fs, rfl, ea, prom⟩
  cases rx
  obtain ⟨mA, O, _⟩ := ins_get I1.hok ea
  obtain ⟨od, J, _⟩ := O.look
  obtain ⟨rest, rec_⟩ := prop.rec_
  have short : [Value.ref a].length = ps.length := (F.len _ _ _ _ prom).symm ▸ rfl
  have isCls : (PySem.W.clsIn X.K C).isSome = true := by
    obtain ⟨cd, e, _⟩ := PySem.W.any_some cls.hd
    rw [e]
    rfl
  refine PySem.W.get_bind I1.kIn J (PySem.W.plainGet_of (cls.get m)).1 (PySem.W.findObj_data isCls prop.at_ prop.get prop.tak) (PySem.W.plainGet_of (cls.get m)).2 (wpAny_call (PySem.W.prop_get (s := { s1 with toks := s1.toks + 1 }) I1.kIn rec_ ?_))
  have I2 := I1.tok (s1.toks + 1)
  refine codeAny_mono (F.run X.A.in1 X.stack _ H1 ⟨[.ref a], []⟩ [.ref a] [.ref a] Q E0 (hr.low hk).one I2.env0.in1 (by simpa using bind _ [.ref a] I2.kIn (by simpa using short)) (.cons rfl .nil) prom) ?_
  intro r s2 out
  cases r with
  | error er => exact (passL (X := X.nox) pins σ H1 _ er s2 (I2.wish _) out).elim
  | ok flow =>
    cases flow with
    | ret v =>
      obtain ⟨y, H2, I3, ry, qy⟩ := I2.after out
      have given := PySem.W.handedOut_of (handed_of ry)
      show wpAny _ _ (handedOut v) _ _ s2
      rw [given]
      exact wpAny_pure ⟨y, H2, I3, ry, qy⟩
    | next => exact out.elim
    | brk => exact out.elim
    | cont => exact out.elim
end
theorem Sep.news {M : List Addr} {H0 G0 G H H' : Hp} {O : List Addr} (S : Sep M H0 G0 G H O) (e : Same H H') (L : List Addr) (hL : ∀ a ∈ L, H a = none ∧ H' a ≠ none ∧ H0 a = none) : Sep M H0 G0 G H' (L ++ O) := by
  have S2 := S.same e
  refine ⟨S2.base, S2.pm, S2.sG, S2.g0, S2.gn, fun a ha => ?_⟩
  rcases List.mem_append.mp ha with h | h
  · obtain ⟨h1, h2, h3⟩ := hL a h
    exact ⟨S.gfree h1, h2, .inr h3⟩
  · exact S2.ow a h
theorem vv_chain {r r' : R2} {ta tb tc : TE} {σ : L2.St} {H : Hp} {x y z : V} {a b : Bool} (ha : Val ta σ H x) (hb : Val tb σ H y) (hc : Val tc σ H z) (h1 : ∀ Q : VK, Q (.bl a) H → r x y H Q) (h2 : ∀ Q : VK, Q (.bl b) H → r' y z H Q) :
    Val (tChain r r' ta tb tc) σ H (.bl (a && b)) := fun Q q => ha _ (hb _ (h1 _ ⟨a, rfl, by
  cases a with
  | true =>
    rw [if_pos rfl]
    exact hc _ (h2 _ q)
  | false =>
    rw [if_neg Bool.false_ne_true]
    exact q⟩))
/-! ### constants that are tuples, lists backwards, zip -/
theorem inV_ints (x : Int) : ∀ xs : List Int, inV (V.int x) (xs.map V.int) = decide (x ∈ xs)
  | [] => by simp [inV]
  | y :: r => by
    have h := inV_ints x r
    unfold inV at h ⊢
    rw [List.map_cons, List.any_cons, h]
    by_cases c : x = y
    · subst c
      simp [eqV]
    · simp [eqV, c, Ne.symm c]
theorem flat_ints : ∀ xs : List Int, (xs.map V.int).all flatV = true
  | [] => rfl
  | _ :: r => flat_ints r
def rInI (K : PySem.W.Frag) : R2 := fun x y H Q => ∃ (i : Int) (p : Addr) (xs : List Int), x = .int i ∧ y = .ref p ∧ (SqL K H p (xs.map V.int) ∨ SqT K H p (xs.map V.int)) ∧ Q (.bl (decide (i ∈ xs))) H
def rNotInI (K : PySem.W.Frag) : R2 := fun x y H Q => ∃ (i : Int) (p : Addr) (xs : List Int), x = .int i ∧ y = .ref p ∧ (SqL K H p (xs.map V.int) ∨ SqT K H p (xs.map V.int)) ∧ Q (.bl (!decide (i ∈ xs))) H
theorem op_inI {X : Cx} {K : PySem.W.Frag} (hK : X.K = K := by rfl) : OpR X (compareOp .In) (rInI K) := by
  subst hK
  intro pins s σ H x y v u Q I rx ry h
  obtain ⟨i, p, xs, rfl, rfl, hs, q⟩ := h
  refine op_in_seq pins s σ H _ _ v u Q I rx ry ⟨p, _, rfl, hs, rfl, flat_ints xs, ?_⟩
  rw [if_neg Bool.false_ne_true, inV_ints]
  exact q
theorem op_notInI {X : Cx} {K : PySem.W.Frag} (hK : X.K = K := by rfl) : OpR X (compareOp .NotIn) (rNotInI K) := by
  subst hK
  intro pins s σ H x y v u Q I rx ry h
  obtain ⟨i, p, xs, rfl, rfl, hs, q⟩ := h
  refine op_notIn_seq pins s σ H _ _ v u Q I rx ry ⟨p, _, rfl, hs, rfl, flat_ints xs, ?_⟩
  rw [if_pos rfl, inV_ints]
  exact q
theorem pe_revLK {X : Cx} {K : PySem.W.Frag} {e : Expr} {te : TE} {k : Nat} {p1 p2 p3 pos : Pos} (he : PE X e te) (hK : X.K = K := by rfl) : PE X (.Subscript e (.Slice none none (some (.UnaryOp .USub (.Constant (.int 1) k p1) p2)) p3) pos) (tRevL K te) := hK ▸ pe_revL he
theorem rev_map {α : Type} {f : α → V} {xs : List α} {H : Hp} {p : Addr} (h : H p = some (.lst (xs.map f).reverse)) : H p = some (.lst (xs.reverse.map f)) := by
  rw [List.map_reverse]
  exact h
theorem RpAll.rev {G : Hp} : ∀ {vs : List V} {ds : List PyData}, RpAll G vs ds → RpAll G vs.reverse ds.reverse
  | _, _, .nil => .nil
  | _, _, .cons h t => by
    rw [List.reverse_cons, List.reverse_cons]
    exact (RpAll.rev t).append (.one h)
theorem rev_all {α : Type} {f : α → PyData} {xs : List α} {G : Hp} {vs : List V} (a : RpAll G vs (xs.map f)) : RpAll G vs.reverse (xs.reverse.map f) := by
  rw [List.map_reverse]
  exact a.rev
theorem pi_zipK {X : Cx} {K : PySem.W.Frag} {e e2 : Expr} {ta : TA} {p pos tpos : Pos} {elts : List Expr} {kk : Nat} (hg : Gl X "zip") (hm : X.mg "zip" = none) (ha : PA X [e, e2] ta) (hK : X.K = K := by rfl)
    (hs : starEach [e, e2] X.env = (false, eval e X.env) :: starEach [e2] X.env := by rfl) (hpl : (backTo pos (starEach [e2] X.env)).any (·.1) = false := by rfl) :
    PI X (.Tuple elts kk tpos) (.Call (.Name "zip" p) [e, e2] [] pos) (RZ.iZipA K ta) := hK ▸ RZ.pi_zipA hg hm ha hs hpl
/-- a comprehension over zip of two lists of one length -/
theorem lc_zipL {K : PySem.W.Frag} {a b : Addr} {xs ys : List V} {g : TG} {tt : TT} {te : TE} {vs : List Nat} {σ : L2.St} {H1 : Hp} {D : Addr} {Qd : Hp → Prop} (hl : xs.length = ys.length) (Pv : Nat → Hp → Prop) (h0 : Pv 0 (upd H1 D (.lst []))) (hq : ∀ i H, i ≤ xs.length → Pv i H → SqL K H a xs ∧ SqL K H b ys)
    (hs : ∀ (i : Nat) (x y : V) (T : Addr) (H : Hp), xs[i]? = some x → ys[i]? = some y → H T = none → Pv i H → g (.ref T) (wipe σ vs) (upd H T (.tup [x, y])) fun σ2 H2 => wipe σ2 vs = wipe σ vs ∧ tt σ2 H2 fun b H3 =>
      if b = true then te σ2 H3 fun y H4 => ∃ acc, H4 D = some (.lst acc) ∧ acc.length < sizeLine ∧ Pv (i + 1) (upd H4 D (.lst (acc ++ [y]))) else Pv (i + 1) H3) (hd : ∀ H, Pv xs.length H → Qd H) :
    ∃ W : Nat → Nat → Hp → Prop, (∃ m, W 0 m (upd H1 D (.lst []))) ∧ ∀ i m H, W i m H →
      ((Itz K a b).stop i H ∧ Qd H) ∨ ((Itz K a b).go i H ∧ ∃ Nx : Hp → Prop, (∀ H', Nx H' → ∃ m', m' < m ∧ W (i + 1) m' H') ∧ ∀ x H', (Itz K a b).yld i H x H' → g x (wipe σ vs) H' fun σ2 H2 => wipe σ2 vs = wipe σ vs ∧ tt σ2 H2 fun b H3 =>
        if b = true then te σ2 H3 fun y H4 => ∃ acc, H4 D = some (.lst acc) ∧ acc.length < sizeLine ∧ Nx (upd H4 D (.lst (acc ++ [y]))) else Nx H3) := by
  refine ⟨fun i m H => m = xs.length - i ∧ i ≤ xs.length ∧ Pv i H, ⟨xs.length, by simp, Nat.zero_le _, h0⟩, ?_⟩
  rintro i m H ⟨rfl, hi, p⟩
  obtain ⟨qx, qy⟩ := hq i H hi p
  by_cases hlt : i < xs.length
  · have hlt2 : i < ys.length := by omega
    refine .inr ⟨⟨xs, ys, xs[i], ys[i], qx, qy, List.getElem?_eq_getElem hlt, List.getElem?_eq_getElem hlt2⟩, Pv (i + 1), fun H' p' => ⟨xs.length - (i + 1), by omega, rfl, hlt, p'⟩, fun v H' y => ?_⟩
    obtain ⟨T, x', y', rfl, hT, rfl, f1, f2⟩ := y
    exact hs i x' y' T H (f1 xs qx) (f2 ys qy) hT p
  · have e : i = xs.length := by omega
    subst e
    exact .inl ⟨⟨xs, ys, qx, qy, Or.inl (Nat.le_refl _)⟩, hd H p⟩
theorem zip_get {α β : Type} {xs : List α} {ys : List β} {i : Nat} {x : α} {y : β} (h1 : xs[i]? = some x) (h2 : ys[i]? = some y) : (xs.zip ys)[i]? = some (x, y) := by
  rw [List.getElem?_zip_eq_some]
  exact ⟨h1, h2⟩
theorem zip_len {α β : Type} {xs : List α} {ys : List β} {n : Nat} (h : xs.length = ys.length) (e : n = xs.length) : n = (xs.zip ys).length := by
  rw [List.length_zip, ← h, Nat.min_self]
  exact e
theorem zlen {α β : Type} {vs ws : List V} {xs : List α} {ys : List β} (a : vs.length = xs.length) (b : ws.length = ys.length) (h : xs.length = ys.length) : vs.length = ws.length := by rw [a, b, h]
section
variable {t : TT} {ta tb : TE} {σ : L2.St} {H : Hp}
theorem vv_ifP {p : Prop} [Decidable p] {a b : Int} (ht : Ans t σ H (decide p)) (hx : p → Val ta σ H (.int a)) (hy : ¬ p → Val tb σ H (.int b)) : Val (tIf t ta tb) σ H (.int (if p then a else b)) := by
  by_cases h : p
  · have := vv_if (p := p) (a := a) (b := a) ht (hx h) (tb := ta) (hx h)
    intro Q q
    refine ht _ ?_
    rw [decide_eq_true h, if_pos rfl]
    rw [if_pos h] at q
    exact hx h _ q
  · intro Q q
    refine ht _ ?_
    rw [decide_eq_false h, if_neg Bool.false_ne_true]
    rw [if_neg h] at q
    exact hy h _ q
theorem vv_ifQ {c : Bool} {a b : Int} (ht : Ans t σ H c) (hx : c = true → Val ta σ H (.int a)) (hy : c = false → Val tb σ H (.int b)) : Val (tIf t ta tb) σ H (.int (if c = true then a else b)) := by
  intro Q q
  refine ht _ ?_
  cases c with
  | true =>
    rw [if_pos rfl]
    rw [if_pos rfl] at q
    exact hx rfl _ q
  | false =>
    rw [if_neg Bool.false_ne_true]
    rw [if_neg Bool.false_ne_true] at q
    exact hy rfl _ q
end
theorem kit_mk0 {K : PySem.W.Frag} {S C : Addr} (h1 : (Value.ref S == Value.ref C) = false) (h2 : PySem.W.isClsIn K C = true) (h3 : PySem.W.typeIn K (.ref C) = some (.type "type")) (h4 : PySem.W.subIn K (.ref S) (.ref C) = some false) :
    PySem.W.kitOne K (.ref S) (.ref C) = some false := by
  unfold PySem.W.isClsIn at h2
  unfold PySem.W.kitOne
  rw [if_neg (by rw [h1]; exact Bool.false_ne_true)]
  unfold PySem.W.kitCls
  simp only [h2, h3, h4, beq_self_eq_true, Bool.and_self, if_true]
theorem vv_call2 {ta tb : TE} {σ : L2.St} {H : Hp} {x y z : V} {r : List V → Hp → VK → Prop} (ha : Val ta σ H x) (hb : Val tb σ H y) (hr : ∀ Q : VK, Q z H → r [x, y] H Q) : Val (tCB r (tCons ta (tCons tb tNil))) σ H z := fun Q q => ha _ (hb _ (hr Q q))
/-! ### lists of data that the caller owns; values that are a truth value or a number -/
theorem Sep.stepnew {M : List Addr} {H0 G0 G H H' : Hp} {O : List Addr} {p : Addr} {o : HO} (S : Sep M H0 G0 G H O) {G' : Hp} (e : Same H H') (eG : Same G G') (sG : Same G' H') (hn : ∀ b, H b ≠ none → G b = none → G' b = none) (_n : H p = none) (h : H' p = some o) (g : G' p = none) (hm : H0 p = none) : Sep M H0 G0 G' H' (p :: O) := by
  have S2 := S.step e eG sG hn
  refine ⟨S2.base, S2.pm, S2.sG, S2.g0, S2.gn, fun a ha => ?_⟩
  rcases List.mem_cons.mp ha with rfl | ha
  · exact ⟨g, (fun z => by rw [z] at h; cases h), .inr hm⟩
  · exact S2.ow a ha
inductive Bi where
  | b (x : Bool)
  | n (i : Int)
deriving DecidableEq
def biV : Bi → V
  | .b x => .bl x
  | .n i => .int i
def Bi.el {α : Type} (v : Bi) (f : Bool → α) (g : Int → α) : α :=
  match v with
  | .b x => f x
  | .n i => g i
theorem cW_elb {α : Type} {x : Bool} {f : Bool → Rx α} {g : Int → Rx α} {K : α → Prop} {E : Nat → Prop} (h : cW (Bi.el (.b x) f g) K E) : cW (f x) K E := h
theorem cW_eln {α : Type} {x : Int} {f : Bool → Rx α} {g : Int → Rx α} {K : α → Prop} {E : Nat → Prop} (h : cW (Bi.el (.n x) f g) K E) : cW (g x) K E := h
theorem rp_tup4 {α β γ δ : Type} {f : α → PyData} {g : β → PyData} {h : γ → PyData} {i : δ → PyData} {H : Hp} {v : V} {x : α × β × γ × δ} (r : Rp H v (encT4 f g h i x)) : ∃ a v1 v2 v3 v4, v = .ref a ∧ H a = some (.tup [v1, v2, v3, v4]) ∧ Rp H v1 (f x.1) ∧ Rp H v2 (g x.2.1) ∧ Rp H v3 (h x.2.2.1) ∧ Rp H v4 (i x.2.2.2) := by
  unfold encT4 at r
  cases r with
  | tup h1 h2 =>
    cases h2 with
    | cons a b =>
      cases b with
      | cons b c =>
        cases c with
        | cons c d =>
          cases d with
          | cons d e =>
            cases e
            exact ⟨_, _, _, _, _, rfl, h1, a, b, c, d⟩
theorem rp_mk4 {α β γ δ : Type} {f : α → PyData} {g : β → PyData} {h : γ → PyData} {i : δ → PyData} {H : Hp} {a : Addr} {v1 v2 v3 v4 : V} {x : α} {y : β} {z : γ} {w : δ} (h1 : H a = some (.tup [v1, v2, v3, v4])) (r1 : Rp H v1 (f x)) (r2 : Rp H v2 (g y)) (r3 : Rp H v3 (h z)) (r4 : Rp H v4 (i w)) : Rp H (.ref a) (encT4 f g h i (x, y, z, w)) := .tup h1 (.cons r1 (.cons r2 (.cons r3 (.cons r4 .nil))))
theorem Sep.b0M {M : List Addr} {H0 G0 G H : Hp} {O : List Addr} (S : Sep M H0 G0 G H O) (h : ∀ a ∈ M, H a = H0 a) : Same H0 H := fun b o e => by
  by_cases z : b ∈ M
  · rw [h b z]
    exact e
  · exact S.base b o e z
section
variable {X : Cx} {k j n : Nat} {f C : Addr} {fd : FuncData} {ps ks : List Str} {g : List V → List V → List V} {sp : Sp} {x m : Str} {pos p apos : Pos} {e o : Expr} {es : List Expr} {kws : List Keyword} {ta : TE} {t tk : TA} {W : WX}
/-- keywords alone -/
theorem vx_makeXK {pats : List Pat} (c : MakX X.prog X.w X.K X.mg X.base k x C sp pats) (pt : Pat) (hpt : pt ∈ pats) (hr : RoomG j X.A) (hk : k + 1 ≤ j) (tkW : Takes X W) (hg : Gl X x) (hkw : PK X kws tk)
    (hall : (backToKw pos (keywordEach kws X.env)).all (·.1.isSome) = true := by rfl) (hks : (backToKw pos (keywordEach kws X.env)).filterMap (·.1) = pt.2.1 := by rfl) (hdb : (x == ("__debug__" : Str)) = false := by decide)
    (hpl : ((backTo pos (starEach [] X.env)).any (·.1) || (backToKw pos (keywordEach kws X.env)).any (·.1.isNone)) = false := by rfl) :
    PE X (.Call (.Name x p) [] kws pos) (tMakeX C pt.1 pt.2.1.length sp pt.2.2 W tNil tk) := by
  obtain ⟨f, fd, ps, M, F, hm, b⟩ := c.ex
  refine ⟨fun pins s σ H Q I h => ?_⟩
  refine wpAny_Call_Name_kw (ld_glob I hg hm ?_ hdb)
  refine PySem.W.callWith_KW0 (h₀ := X.base) I.ok.mod.kin M.kp hall ?_ hpl
  refine thn (hkw.run pos pins s σ H _ I h) fun ws s2 ⟨zs, H2, I2, rz, l1, l2, q2⟩ => ⟨I2.kIn, ?_⟩
  rw [hks]
  exact run_mkX (us := []) (vs := []) M F (hr.low hk) (b pt hpt) tkW I2 .nil rz l1 l2 q2
theorem vx_callXK {pats : List Pat} (c : CalX X.prog X.w X.K X.mg X.base k x sp pats) (pt : Pat) (hpt : pt ∈ pats) (hr : RoomG j X.A) (hk : k ≤ j) (tkW : Takes X W) (hg : Gl X x) (hkw : PK X kws tk)
    (hall : (backToKw pos (keywordEach kws X.env)).all (·.1.isSome) = true := by rfl) (hks : (backToKw pos (keywordEach kws X.env)).filterMap (·.1) = pt.2.1 := by rfl) (hdb : (x == ("__debug__" : Str)) = false := by decide)
    (hpl : ((backTo pos (starEach [] X.env)).any (·.1) || (backToKw pos (keywordEach kws X.env)).any (·.1.isNone)) = false := by rfl) :
    PE X (.Call (.Name x p) [] kws pos) (tCallX pt.1 pt.2.1.length sp pt.2.2 W tNil tk) := by
  obtain ⟨f, fd, ps, F, hm, kp, b⟩ := c.ex
  refine ⟨fun pins s σ H Q I h => ?_⟩
  refine wpAny_Call_Name_kw (ld_glob I hg hm ?_ hdb)
  refine PySem.W.callWith_KW0 (h₀ := X.base) I.ok.mod.kin kp hall ?_ hpl
  refine thn (hkw.run pos pins s σ H _ I h) fun ws s2 ⟨zs, H2, I2, rz, l1, l2, q2⟩ => ⟨I2.kIn, ?_⟩
  rw [hks]
  exact run_X (us := []) (vs := []) F (hr.low hk) (b pt hpt) tkW I2 .nil rz l1 l2 q2
theorem vx_methXK {pats : List Pat} {pl : Sem Bool} (c : MetX X.prog X.w X.K X.mg X.base k C m sp pats) (pt : Pat) (hpt : pt ∈ pats) (hr : RoomG j X.A) (hk : k ≤ j) (tkW : Takes X W) (he : PE X o ta) (hkw : PK X kws tk)
    (hall : (backToKw pos (keywordEach kws X.env)).all (·.1.isSome) = true := by rfl) (hks : (backToKw pos (keywordEach kws X.env)).filterMap (·.1) = pt.2.1 := by rfl)
    (hpl : ((backTo pos (starEach [] X.env)).any (·.1) || (backToKw pos (keywordEach kws X.env)).any (·.1.isNone)) = false := by rfl)
    (ht : eval (.Call (.Attribute o m apos) [] kws pos) X.env = (do
      let ov ← eval o X.env
      standAt apos.atName
      let (f, first) ← holding [ov] (getMethod ov m pl)
      callWith pos f first (backTo pos (starEach [] X.env)) (backToKw pos (keywordEach kws X.env))) := by rfl) :
    PE X (.Call (.Attribute o m apos) [] kws pos) (tMethX C m pt.1 pt.2.1.length sp pt.2.2 W ta tNil tk) := by
  obtain ⟨f, fd, ps, hc, hm, F, b⟩ := c.ex
  refine ⟨fun pins s σ H Q I h => ?_⟩
  refine PySem.W.methodCall_KW (pl := pl) (thn (he.run pins s σ H _ I h) fun u s1 ⟨x, H1, I1, rx, a, dx, fs, ex, ea, l, q⟩ => ?_) ht
  subst ex
  obtain rfl : u = Value.ref a := rx
  refine getmeth_ok I1 ea hc hm l ?_
  refine PySem.W.callWith_KW0 (first := [.ref a]) (h₀ := X.base) I.ok.mod.kin hm.kp hall ?_ hpl
  refine thn (hkw.run pos pins s1 σ H1 _ I1 q) fun ws s3 ⟨zs, H3, I3, rz, l1, l2, q3⟩ => ⟨I3.kIn, ?_⟩
  rw [hks]
  exact run_X (us := [.ref a]) (vs := [.ref a]) F (hr.low hk) (b pt hpt) tkW I3 (.cons rfl .nil) rz l1 l2 q3
end
end Vx
/-! # lists within lists that are owned as a whole -/
namespace Vx
open PySem PySem.Spec PyProof.Rows L2
inductive Kd where
  | lst
  | tup
  | ins (C dx : Addr) (ns : List Str)
def Kd.ho : Kd → List V → HO
  | .lst, vs => .lst vs
  | .tup, vs => .tup vs
  | .ins C dx ns, vs => .ins C dx (ns.zip vs)
/-- what stands in the heap as a tree: values as they are, data that stay, nodes of its own -/
inductive Dt where
  | val (v : V)
  | frz (d : PyData)
  | nod (k : Kd) (xs : List Dt)
mutual
inductive Ow (G H : Hp) : List Addr → V → Dt → Prop
  | val (v : V) : Ow G H [] v (.val v)
  | frz {v : V} {d : PyData} : Rp G v d → Ow G H [] v (.frz d)
  | nod {a : Addr} {k : Kd} {vs : List V} {ds : List Dt} {L : List Addr} : H a = some (k.ho vs) → OwAll G H L vs ds → a ∉ L → Ow G H (a :: L) (.ref a) (.nod k ds)
inductive OwAll (G H : Hp) : List Addr → List V → List Dt → Prop
  | nil : OwAll G H [] [] []
  | cons {L1 L2 : List Addr} {v : V} {vs : List V} {d : Dt} {ds : List Dt} : Ow G H L1 v d → OwAll G H L2 vs ds → (∀ b ∈ L1, b ∉ L2) → OwAll G H (L1 ++ L2) (v :: vs) (d :: ds)
end
def Keeps (L : List Addr) (H H' : Hp) : Prop := ∀ b ∈ L, ∀ o, H b = some o → H' b = some o
mutual
theorem Ow.mono {G G' H H' : Hp} (e : Same G G') : ∀ {L : List Addr} {v : V} {d : Dt}, Keeps L H H' → Ow G H L v d → Ow G' H' L v d
  | _, _, _, _, .val v => .val v
  | _, _, _, _, .frz r => .frz (r.mono e)
  | _, _, _, k, .nod h r n => .nod (k _ List.mem_cons_self _ h) (OwAll.mono e (fun b hb => k b (List.mem_cons_of_mem _ hb)) r) n
theorem OwAll.mono {G G' H H' : Hp} (e : Same G G') : ∀ {L : List Addr} {vs : List V} {ds : List Dt}, Keeps L H H' → OwAll G H L vs ds → OwAll G' H' L vs ds
  | _, _, _, _, .nil => .nil
  | _, _, _, k, .cons a r d => .cons (Ow.mono e (fun b hb => k b (List.mem_append_left _ hb)) a) (OwAll.mono e (fun b hb => k b (List.mem_append_right _ hb)) r) d
end
mutual
theorem Ow.there {G H : Hp} : ∀ {L : List Addr} {v : V} {d : Dt}, Ow G H L v d → ∀ b ∈ L, H b ≠ none
  | _, _, _, .val _, _, hb => nomatch hb
  | _, _, _, .frz _, _, hb => nomatch hb
  | _, _, _, .nod h r n, b, hb => by
    rcases List.mem_cons.mp hb with rfl | hb
    · exact some_ne h
    · exact OwAll.there r b hb
theorem OwAll.there {G H : Hp} : ∀ {L : List Addr} {vs : List V} {ds : List Dt}, OwAll G H L vs ds → ∀ b ∈ L, H b ≠ none
  | _, _, _, .nil, _, hb => nomatch hb
  | _, _, _, .cons a r d, b, hb => by
    rcases List.mem_append.mp hb with hb | hb
    · exact Ow.there a b hb
    · exact OwAll.there r b hb
end
theorem OwAll.len {G H : Hp} : ∀ {L : List Addr} {vs : List V} {ds : List Dt}, OwAll G H L vs ds → vs.length = ds.length
  | _, _, _, .nil => rfl
  | _, _, _, .cons _ r _ => congrArg Nat.succ r.len
theorem OwAll.snoc {G H : Hp} {L1 : List Addr} {v : V} {d : Dt} (h : Ow G H L1 v d) : ∀ {L : List Addr} {vs : List V} {ds : List Dt}, OwAll G H L vs ds → (∀ b ∈ L, b ∉ L1) → OwAll G H (L ++ L1) (vs ++ [v]) (ds ++ [d])
  | _, _, _, .nil, _ => by
    have z : OwAll G H (L1 ++ []) [v] [d] := .cons h .nil (fun _ _ z => nomatch z)
    rw [List.append_nil] at z
    exact z
  | _, _, _, .cons (L1 := La) (L2 := Lb) a r n, k => by
    have z := OwAll.cons a (OwAll.snoc h r fun b hb => k b (List.mem_append_right _ hb)) (fun b hb q => by
      rcases List.mem_append.mp q with q | q
      · exact n b hb q
      · exact k b (List.mem_append_left _ hb) q)
    rw [← List.append_assoc] at z
    exact z
theorem OwAll.app {G H : Hp} {L2 : List Addr} {ws : List V} {es : List Dt} (h : OwAll G H L2 ws es) : ∀ {L : List Addr} {vs : List V} {ds : List Dt}, OwAll G H L vs ds → (∀ b ∈ L, b ∉ L2) → OwAll G H (L ++ L2) (vs ++ ws) (ds ++ es)
  | _, _, _, .nil, _ => h
  | _, _, _, .cons (L1 := La) (L2 := Lb) a r n, k => by
    have z := OwAll.cons a (OwAll.app h r fun b hb => k b (List.mem_append_right _ hb)) (fun b hb q => by
      rcases List.mem_append.mp q with q | q
      · exact n b hb q
      · exact k b (List.mem_append_left _ hb) q)
    rw [← List.append_assoc] at z
    exact z
/-! ### trees that are data -/
mutual
inductive Dd : Dt → PyData → Prop
  | non : Dd (.val .non) .none
  | bl (b : Bool) : Dd (.val (.bl b)) (.bool b)
  | int (i : Int) : Dd (.val (.int i)) (.int i)
  | str (x : Str) : Dd (.val (.str x)) (.str x)
  | frz (d : PyData) : Dd (.frz d) d
  | lst {xs : List Dt} {ds : List PyData} : DdAll xs ds → Dd (.nod .lst xs) (.list ds)
  | tup {xs : List Dt} {ds : List PyData} : DdAll xs ds → Dd (.nod .tup xs) (.tuple ds)
inductive DdAll : List Dt → List PyData → Prop
  | nil : DdAll [] []
  | cons {x : Dt} {xs : List Dt} {d : PyData} {ds : List PyData} : Dd x d → DdAll xs ds → DdAll (x :: xs) (d :: ds)
end
mutual
/-- read in any heap that holds its nodes -/
theorem Ow.rp {G H I : Hp} (e : Same G I) : ∀ {L : List Addr} {v : V} {d : Dt} {p : PyData}, Keeps L H I → Ow G H L v d → Dd d p → Rp I v p
  | _, _, _, _, _, .val _, .non => .non
  | _, _, _, _, _, .val _, .bl b => .bl b
  | _, _, _, _, _, .val _, .int i => .int i
  | _, _, _, _, _, .val _, .str x => .str x
  | _, _, _, _, _, .frz r, .frz _ => r.mono e
  | _, _, _, _, k, .nod h r _, .lst q => .lst (k _ List.mem_cons_self _ h) (OwAll.rp e (fun b hb => k b (List.mem_cons_of_mem _ hb)) r q)
  | _, _, _, _, k, .nod h r _, .tup q => .tup (k _ List.mem_cons_self _ h) (OwAll.rp e (fun b hb => k b (List.mem_cons_of_mem _ hb)) r q)
theorem OwAll.rp {G H I : Hp} (e : Same G I) : ∀ {L : List Addr} {vs : List V} {ds : List Dt} {ps : List PyData}, Keeps L H I → OwAll G H L vs ds → DdAll ds ps → RpAll I vs ps
  | _, _, _, _, _, .nil, .nil => .nil
  | _, _, _, _, k, .cons a r _, .cons x xs => .cons (Ow.rp e (fun b hb => k b (List.mem_append_left _ hb)) a x) (OwAll.rp e (fun b hb => k b (List.mem_append_right _ hb)) r xs)
end
def oI (i : Int) : Dt := .val (.int i)
def oB (b : Bool) : Dt := .val (.bl b)
def oF {α : Type} (f : α → PyData) (x : α) : Dt := .frz (f x)
def oL {α : Type} (f : α → Dt) (xs : List α) : Dt := .nod .lst (xs.map f)
def EncO {α : Type} (f : α → Dt) (g : α → PyData) : Prop := ∀ x, Dd (f x) (g x)
theorem encO_I : EncO oI PyData.int := fun i => .int i
theorem encO_B : EncO oB PyData.bool := fun i => .bl i
theorem encO_F {α : Type} {f : α → PyData} : EncO (oF f) f := fun _ => .frz _
theorem EncO.all {α : Type} {f : α → Dt} {g : α → PyData} (h : EncO f g) : ∀ xs : List α, DdAll (xs.map f) (xs.map g)
  | [] => .nil
  | x :: xs => .cons (h x) (EncO.all h xs)
theorem encO_L {α : Type} {f : α → Dt} {g : α → PyData} (h : EncO f g) : EncO (oL f) (encL g) := fun xs => .lst (h.all xs)
theorem keeps_same {L : List Addr} {H H' : Hp} (e : Same H H') : Keeps L H H' := fun b _ o q => e b o q
theorem keeps_refl {L : List Addr} {H : Hp} : Keeps L H H := fun _ _ _ q => q
theorem keeps_mut {L : List Addr} {H H' : Hp} {m : Addr} (x : SameX m H H') (n : ∀ b ∈ L, b ≠ m) : Keeps L H H' := fun b hb o q => x b o q (n b hb)
theorem keeps_muts {L M : List Addr} {H H' : Hp} (x : SameXs M H H') (n : ∀ b ∈ L, b ∉ M) : Keeps L H H' := fun b hb o q => x b o q (n b hb)
theorem keeps_hide {L M : List Addr} {H : Hp} (n : ∀ b ∈ L, b ∉ M) : Keeps L H (hideL M H) := fun b hb o q => by
  rw [hideL_out (n b hb)]
  exact q
section
variable {α : Type} {f : α → Dt} {g : α → PyData} {G H I : Hp} {L : List Addr} {vs : List V} {xs : List α}
theorem OwAll.rpA (w : OwAll G H L vs (xs.map f)) (h : EncO f g) (e : Same G H) : RpAll H vs (xs.map g) := OwAll.rp e keeps_refl w (h.all xs)
theorem OwAll.rpH (w : OwAll G H L vs (xs.map f)) (h : EncO f g) (e : Same G I) (k : Keeps L H I) : RpAll I vs (xs.map g) := OwAll.rp e k w (h.all xs)
theorem OwAll.lenM (w : OwAll G H L vs (xs.map f)) : vs.length = xs.length := by rw [w.len, List.length_map]
theorem OwAll.snocM {L1 : List Addr} {v : V} {y : α} (w : OwAll G H L vs (xs.map f)) (h : Ow G H L1 v (f y)) (n : ∀ b ∈ L, b ∉ L1) : OwAll G H (L ++ L1) (vs ++ [v]) ((xs ++ [y]).map f) := by
  rw [List.map_append]
  exact OwAll.snoc h w n
theorem Ow.ints {a : Addr} {ys : List Int} (h : H a = some (.lst (ys.map V.int))) : Ow G H [a] (.ref a) (oL oI ys) := by
  have z : ∀ ys : List Int, OwAll G H [] (ys.map V.int) (ys.map oI) := fun ys => by
    induction ys with
    | nil => exact .nil
    | cons y r ih => exact .cons (L1 := []) (L2 := []) (.val _) ih (fun _ z => nomatch z)
  exact .nod (k := .lst) h (z ys) (fun z => nomatch z)
theorem Ow.list {a : Addr} {xs : List α} {L : List Addr} {vs : List V} (h : H a = some (.lst vs)) (w : OwAll G H L vs (xs.map f)) (n : ∀ b ∈ L, b ≠ a) : Ow G H (a :: L) (.ref a) (oL f xs) := .nod (k := .lst) h w (fun z => n a z rfl)
theorem Ow.toList {v : V} {L : List Addr} {xs : List α} (w : Ow G H L v (oL f xs)) : ∃ a vs L', v = .ref a ∧ L = a :: L' ∧ H a = some (.lst vs) ∧ OwAll G H L' vs (xs.map f) ∧ ∀ b ∈ L', b ≠ a := by
  unfold oL at w
  cases w with
  | nod h r n => exact ⟨_, _, _, rfl, rfl, h, r, fun b hb z => n (z ▸ hb)⟩
theorem OwAll.toInts : ∀ {L : List Addr} {vs : List V} {xs : List Int}, OwAll G H L vs (xs.map oI) → L = [] ∧ vs = xs.map V.int
  | _, _, [], .nil => ⟨rfl, rfl⟩
  | _, _, x :: xs, .cons a r _ => by
    obtain ⟨h1, h2⟩ := OwAll.toInts r
    cases a
    exact ⟨by rw [h1] <;> rfl, by rw [h2] <;> rfl⟩
theorem Ow.toInts {v : V} {L : List Addr} {xs : List Int} (w : Ow G H L v (oL oI xs)) : ∃ a, v = .ref a ∧ L = [a] ∧ H a = some (.lst (xs.map V.int)) := by
  obtain ⟨a, vs, L', rfl, rfl, h, r, _⟩ := w.toList
  obtain ⟨rfl, rfl⟩ := r.toInts
  exact ⟨a, rfl, rfl, h⟩
/-- the part at a place, and how a change of it alone changes the whole -/
theorem OwAll.part : ∀ {L : List Addr} {vs : List V} {ds : List Dt} {i : Nat} {d : Dt}, OwAll G H L vs ds → ds[i]? = some d → ∃ v L1, vs[i]? = some v ∧ Ow G H L1 v d ∧ (∀ b ∈ L1, b ∈ L) ∧
    ∀ H' d', (∀ b ∈ L, b ∉ L1 → ∀ o, H b = some o → H' b = some o) → Ow G H' L1 v d' → OwAll G H' L vs (ds.set i d')
  | _, _, _, _, _, .nil, h => by simp at h
  | _, _, _, 0, _, .cons (L1 := La) (L2 := Lb) a r n, h => by
    simp at h
    subst h
    refine ⟨_, La, rfl, a, fun b hb => List.mem_append_left _ hb, fun H' d' k w => ?_⟩
    exact .cons w (OwAll.mono (Same.refl G) (fun b hb => k b (List.mem_append_right _ hb) fun z => n b z hb) r) n
  | _, _, _, i + 1, _, .cons (L1 := La) (L2 := Lb) a r n, h => by
    obtain ⟨v, L1, h1, h2, h3, h4⟩ := OwAll.part (i := i) r (by simpa using h)
    refine ⟨v, L1, by simpa using h1, h2, fun b hb => List.mem_append_right _ (h3 b hb), fun H' d' k w => ?_⟩
    refine .cons (Ow.mono (Same.refl G) (fun b hb => k b (List.mem_append_left _ hb) fun z => n b hb (h3 b z)) a) (h4 H' d' (fun b hb nb => k b (List.mem_append_right _ hb) nb) w) n
/-- the same, where the part grows: its new footprint is the old one and what is new -/
theorem OwAll.part2 : ∀ {L : List Addr} {vs : List V} {ds : List Dt} {i : Nat} {d : Dt}, OwAll G H L vs ds → ds[i]? = some d → ∃ v L1, vs[i]? = some v ∧ Ow G H L1 v d ∧ (∀ b ∈ L1, b ∈ L) ∧
    (∀ H' d', (∀ b ∈ L, b ∉ L1 → ∀ o, H b = some o → H' b = some o) → Ow G H' L1 v d' → OwAll G H' L vs (ds.set i d')) ∧
    ∀ H' d' Fv L1', (∀ b ∈ L, b ∉ L1 → ∀ o, H b = some o → H' b = some o) → (∀ b ∈ L1', b ∈ L1 ++ Fv) → (∀ b ∈ Fv, b ∉ L) → Ow G H' L1' v d' → ∃ L', (∀ b ∈ L', b ∈ L ++ Fv) ∧ OwAll G H' L' vs (ds.set i d')
  | _, _, _, _, _, .nil, h => by simp at h
  | _, _, _, 0, _, .cons (L1 := La) (L2 := Lb) a r n, h => by
    simp at h
    subst h
    refine ⟨_, La, rfl, a, fun b hb => List.mem_append_left _ hb, fun H' d' k w => ?_, fun H' d' Fv L1' k s nf w => ⟨L1' ++ Lb, fun b hb => ?_, ?_⟩⟩
    · exact .cons w (OwAll.mono (Same.refl G) (fun b hb => k b (List.mem_append_right _ hb) fun z => n b z hb) r) n
    · rcases List.mem_append.mp hb with hb | hb
      · rcases List.mem_append.mp (s b hb) with q | q
        · exact List.mem_append_left _ (List.mem_append_left _ q)
        · exact List.mem_append_right _ q
      · exact List.mem_append_left _ (List.mem_append_right _ hb)
    · refine .cons w (OwAll.mono (Same.refl G) (fun b hb => k b (List.mem_append_right _ hb) fun z => n b z hb) r) fun b hb q => ?_
      rcases List.mem_append.mp (s b hb) with z | z
      · exact n b z q
      · exact nf b z (List.mem_append_right _ q)
  | _, _, _, i + 1, _, .cons (L1 := La) (L2 := Lb) a r n, h => by
    obtain ⟨v, L1, h1, h2, h3, h4, h5⟩ := OwAll.part2 (i := i) r (by simpa using h)
    refine ⟨v, L1, by simpa using h1, h2, fun b hb => List.mem_append_right _ (h3 b hb), fun H' d' k w => ?_, fun H' d' Fv L1' k s nf w => ?_⟩
    · refine .cons (Ow.mono (Same.refl G) (fun b hb => k b (List.mem_append_left _ hb) fun z => n b hb (h3 b z)) a) (h4 H' d' (fun b hb nb => k b (List.mem_append_right _ hb) nb) w) n
    · obtain ⟨L', s2, z⟩ := h5 H' d' Fv L1' (fun b hb nb => k b (List.mem_append_right _ hb) nb) s (fun b hb q => nf b hb (List.mem_append_right _ q)) w
      refine ⟨La ++ L', fun b hb => ?_, .cons (Ow.mono (Same.refl G) (fun b hb => k b (List.mem_append_left _ hb) fun z => n b hb (h3 b z)) a) z fun b hb q => ?_⟩
      · rcases List.mem_append.mp hb with hb | hb
        · exact List.mem_append_left _ (List.mem_append_left _ hb)
        · rcases List.mem_append.mp (s2 b hb) with q | q
          · exact List.mem_append_left _ (List.mem_append_right _ q)
          · exact List.mem_append_right _ q
      · rcases List.mem_append.mp (s2 b q) with y | y
        · exact n b hb y
        · exact nf b y (List.mem_append_left _ hb)
theorem OwAll.partM [Inhabited α] {k : Int} (w : OwAll G H L vs (xs.map f)) (h : -(xs.length : Int) ≤ k ∧ k < xs.length) : ∃ v L1, atI vs k = some v ∧ Ow G H L1 v (f (itD xs k)) ∧ (∀ b ∈ L1, b ∈ L) ∧
    (∀ H' y, (∀ b ∈ L, b ∉ L1 → ∀ o, H b = some o → H' b = some o) → Ow G H' L1 v (f y) → OwAll G H' L vs ((setL xs k y).map f)) ∧
    ∀ H' y Fv L1', (∀ b ∈ L, b ∉ L1 → ∀ o, H b = some o → H' b = some o) → (∀ b ∈ L1', b ∈ L1 ++ Fv) → (∀ b ∈ Fv, b ∉ L) → Ow G H' L1' v (f y) → ∃ L', (∀ b ∈ L', b ∈ L ++ Fv) ∧ OwAll G H' L' vs ((setL xs k y).map f) := by
  obtain ⟨j, e, hj⟩ := ixN_some h
  have hx := List.getElem?_eq_getElem hj
  obtain ⟨v, L1, h1, h2, h3, h4, h5⟩ := OwAll.part2 (i := j) (d := f xs[j]) w (by rw [List.getElem?_map, hx] <;> rfl)
  have ei : itD xs k = xs[j] := by
    unfold itD atI
    rw [e]
    show (xs[j]?).getD default = _
    rw [hx] <;> rfl
  refine ⟨v, L1, ?_, by rw [ei]; exact h2, h3, fun H' y q w2 => ?_, fun H' y Fv L1' q s nf w2 => ?_⟩
  · unfold atI
    rw [w.lenM, e]
    exact h1
  · have z := h4 H' (f y) q w2
    unfold setL
    rw [e, List.map_set]
    exact z
  · obtain ⟨L', s2, z⟩ := h5 H' (f y) Fv L1' q s nf w2
    refine ⟨L', s2, ?_⟩
    unfold setL
    rw [e, List.map_set]
    exact z
theorem grow_keeps {L L1 : List Addr} {m : Addr} {H H1 H2 : Hp} (e : Same H H1) (x : SameX m H1 H2) (hm : m ∈ L1) : ∀ b ∈ L, b ∉ L1 → ∀ o, H b = some o → H2 b = some o := fun b _ n o q => x b o (e b o q) (fun z => n (z ▸ hm))
theorem grow_sub {a : Addr} {L' Lr Fv : List Addr} (h : ∀ b ∈ L', b ∈ Lr ++ Fv) : ∀ b ∈ a :: L', b ∈ (a :: Lr) ++ Fv := fun b hb => by
  rcases List.mem_cons.mp hb with rfl | hb
  · exact List.mem_cons_self
  · exact List.mem_cons_of_mem _ (h b hb)
/-- the item of a turn -/
theorem OwAll.turn {i : Nat} {v : V} (w : OwAll G H L vs (xs.map f)) (h : vs[i]? = some v) : ∃ x L1, xs[i]? = some x ∧ Ow G H L1 v (f x) ∧ ∀ b ∈ L1, b ∈ L := by
  have hl := get_len h
  have e := w.lenM
  have hx := List.getElem?_eq_getElem (show i < xs.length by omega)
  obtain ⟨v2, L1, h1, h2, h3, _⟩ := OwAll.part (i := i) (d := f xs[i]) w (by rw [List.getElem?_map, hx] <;> rfl)
  rw [h] at h1
  cases h1
  exact ⟨_, L1, hx, h2, h3⟩
end
/-! ### what is owned, in pieces -/
theorem all_app {P : Addr → Prop} {L l : List Addr} (h : ∀ x ∈ L, P x) (t : ∀ x ∈ l, P x) : ∀ x ∈ L ++ l, P x := fun x hx => by
  rcases List.mem_append.mp hx with q | q
  · exact h x q
  · exact t x q
theorem nm_nil {a : Addr} : a ∉ ([] : List Addr) := fun z => nomatch z
theorem nm_cons {a m : Addr} {l : List Addr} (h : a ≠ m) (t : a ∉ l) : a ∉ m :: l := fun z => by
  rcases List.mem_cons.mp z with q | q
  · exact h q
  · exact t q
theorem nm_app {a : Addr} {L l : List Addr} (h : a ∉ L) (t : a ∉ l) : a ∉ L ++ l := fun z => by
  rcases List.mem_append.mp z with q | q
  · exact h q
  · exact t q
theorem there_ne {H : Hp} {L : List Addr} {x : Addr} (t : ∀ b ∈ L, H b ≠ none) (n : H x = none) : ∀ b ∈ L, b ≠ x := fun b hb z => t b hb (z ▸ n)
theorem new_ne {H : Hp} {L : List Addr} {x : Addr} {o : HO} (n : ∀ b ∈ L, H b = none) (h : H x = some o) : ∀ b ∈ L, b ≠ x := fun b hb z => by
  have := n b hb
  rw [z, h] at this
  cases this
theorem new_nl {H : Hp} {L L2 : List Addr} (n : ∀ b ∈ L, H b = none) (t : ∀ b ∈ L2, H b ≠ none) : ∀ b ∈ L, b ∉ L2 := fun b hb z => t b z (n b hb)
theorem nl_symm {L L2 : List Addr} (h : ∀ b ∈ L, b ∉ L2) : ∀ b ∈ L2, b ∉ L := fun b hb z => h b z hb
theorem none_of_same {H H' : Hp} {x : Addr} (e : Same H H') (n : H' x = none) : H x = none := by
  cases q : H x with
  | none => rfl
  | some o =>
    rw [e x o q] at n
    cases n
section
variable {M : List Addr} {H0 G0 G H H' : Hp} {O L : List Addr} {p m : Addr} {o : HO}
theorem Sep.h0 (S : Sep M H0 G0 G H O) {b : Addr} (hb : b ∈ O) (hM : b ∉ M) : H0 b = none := (S.ow b hb).2.2.elim (fun z => (hM z).elim) id
theorem g_nl {a : Addr} {o : HO} (h : G a = some o) (S : Sep M H0 G0 G H O) (hL : ∀ b ∈ L, b ∈ O) : ∀ b ∈ L, b ≠ a := fun b hb => (g_ne h S (hL b hb)).symm
theorem b_nl {a : Addr} {o : HO} (h : (hideL M H0) a = some o) (S : Sep M H0 G0 G H O) (hL : ∀ b ∈ L, b ∈ O) : ∀ b ∈ L, b ≠ a := fun b hb => (b_ne h S (hL b hb)).symm
/-- a whole tree that is to stay as it is -/
theorem Sep.freezeL (S : Sep M H0 G0 G H O) {O' : List Addr} (hL : ∀ b ∈ L, b ∈ O) (h0 : ∀ b ∈ L, H0 b = none) (hO : ∀ b ∈ O', b ∈ O ∧ b ∉ L) : ∃ G', Same G G' ∧ Keeps L H G' ∧ Sep M H0 G0 G' H O' := by
  have gn : ∀ b ∈ L, G b = none := fun b hb => (S.ow b (hL b hb)).1
  refine ⟨fun b => if b ∈ L then H b else G b, fun b u q => ?_, fun b hb u q => ?_, S.base, S.pm, fun b u q => ?_, fun b u q => ?_, fun b hb gb => ?_, fun a ha => ?_⟩
  · have n : b ∉ L := fun z => by
      rw [gn b z] at q
      cases q
    show (if b ∈ L then H b else G b) = _
    rw [if_neg n]
    exact q
  · show (if b ∈ L then H b else G b) = _
    rw [if_pos hb]
    exact q
  · by_cases z : b ∈ L
    · exact (if_pos z).symm.trans q
    · exact S.sG b u ((if_neg z).symm.trans q)
  · have z : b ∉ L := fun z => by
      have := S.g0 b u q
      rw [gn b z] at this
      cases this
    show (if b ∈ L then H b else G b) = _
    rw [if_neg z]
    exact S.g0 b u q
  · have z : b ∉ L := fun z => hb (h0 b z)
    show (if b ∈ L then H b else G b) = _
    rw [if_neg z]
    exact S.gn b hb gb
  · obtain ⟨h1, h2⟩ := hO a ha
    refine ⟨?_, (S.ow a h1).2⟩
    show (if a ∈ L then H a else G a) = _
    rw [if_neg h2]
    exact (S.ow a h1).1
/-- a callee hands over a list of lists of its own making -/
theorem Sep.steptree (S : Sep M H0 G0 G H O) {G' : Hp} (e : Same H H') (eG : Same G G') (sG : Same G' H') (hn : ∀ b, H b ≠ none → G b = none → G' b = none) (L : List Addr) (hL : ∀ b ∈ L, H b = none ∧ G' b = none ∧ H' b ≠ none) : Sep M H0 G0 G' H' (L ++ O) := by
  have S2 := S.step e eG sG hn
  refine ⟨S2.base, S2.pm, S2.sG, S2.g0, S2.gn, all_app (fun b hb => ⟨(hL b hb).2.1, (hL b hb).2.2, .inr (S.free (hL b hb).1)⟩) S2.ow⟩
end
theorem Rp.list_of {α : Type} {g : α → PyData} {H : Hp} {a : Addr} {vs : List V} {xs : List α} (h : H a = some (.lst vs)) (r : RpAll H vs (xs.map g)) : Rp H (.ref a) (encL g xs) := .lst h r
/-! ### repr of data -/
mutual
def nodes : PyData → Nat
  | .list xs => 1 + nodesAll xs
  | .tuple xs => 1 + nodesAll xs
  | _ => 1
def nodesAll : List PyData → Nat
  | [] => 0
  | x :: xs => nodes x + nodesAll xs
end
mutual
def smallD : PyData → Bool
  | .none => true
  | .bool _ => true
  | .int i => decide (i.natAbs < 10 ^ 19)
  | .str x => decide ((reprText x).length ≤ 20)
  | .list xs => smallAll xs
  | .tuple xs => smallAll xs
  | _ => false
def smallAll : List PyData → Bool
  | [] => true
  | x :: xs => smallD x && smallAll xs
end
theorem piled_list (ts : List Str) : (listText ts).length ≤ piled ts + 2 := by
  cases ts with
  | nil => exact Nat.le_refl 2
  | cons t r =>
    have e : (listText (t :: r)).length = (textFrom 1 ("[" ++ ("" : String) ++ t) r).length + 1 := by
      show (textFrom 0 "[" (t :: r) ++ "]").length = _
      rw [strLen_append]
      rfl
    rw [e, textFrom_length_pos r 1 _ (by decide), piled_cons, strLen_append, strLen_append]
    have h1 : (("[" : String) : Str).length = 1 := rfl
    have h2 : (("" : String) : Str).length = 0 := rfl
    omega
theorem piled_tup (ts : List Str) : (tupleText ts).length ≤ piled ts + 3 := by
  unfold tupleText
  rw [strLen_append, strLen_append]
  have h1 : (("(" : String) : Str).length = 1 := rfl
  have h2 : (((if ts.length == 1 then ",)" else ")" : String) : Str)).length ≤ 2 := by split <;> decide
  by_cases h : ts = []
  · subst h
    exact Nat.le_of_lt (by decide)
  · have := join_length_add ts h
    omega
mutual
theorem small_shown : ∀ d : PyData, smallD d = true → d.shown.length + 4 ≤ 26 * nodes d ∧ d.showable = true ∧ d.hasDict = false
  | .none, _ => ⟨by simp only [PyData.shown, nodes]; decide, by simp [PyData.showable], by simp [PyData.hasDict]⟩
  | .bool b, _ => ⟨by cases b <;> simp only [PyData.shown, nodes] <;> decide, by simp [PyData.showable], by simp [PyData.hasDict]⟩
  | .int i, h => by
    have h : i.natAbs < 10 ^ 19 := by simpa [smallD] using h
    refine ⟨?_, ?_, by simp [PyData.hasDict]⟩
    · have := int_text_length_le10 (k := 19) (by decide) h
      simp only [PyData.shown, nodes]
      rw [PySem.ofString_length]
      omega
    · simp only [PyData.showable, decide_eq_true_eq]
      have : i.natAbs < 2 ^ 64 := by omega
      rcases Nat.eq_zero_or_pos i.natAbs with z | z
      · rw [z]
        decide
      · have := (Nat.log2_lt (by omega)).mpr this
        omega
  | .str x, h => by
    have h : (reprText x).length ≤ 20 := by simpa [smallD] using h
    refine ⟨by simp only [PyData.shown, nodes]; omega, by simp [PyData.showable], by simp [PyData.hasDict]⟩
  | .list xs, h => by
    obtain ⟨h1, h2, h3⟩ := small_shownAll xs (by simpa [smallD] using h)
    refine ⟨?_, by simpa [PyData.showable] using h2, by simpa [PyData.hasDict] using h3⟩
    have := piled_list (PyData.shownAll xs)
    simp only [PyData.shown, nodes]
    omega
  | .tuple xs, h => by
    obtain ⟨h1, h2, h3⟩ := small_shownAll xs (by simpa [smallD] using h)
    refine ⟨?_, by simpa [PyData.showable] using h2, by simpa [PyData.hasDict] using h3⟩
    have := piled_tup (PyData.shownAll xs)
    simp only [PyData.shown, nodes]
    omega
  | .dict kvs, h => by simp [smallD] at h
theorem small_shownAll : ∀ ds : List PyData, smallAll ds = true → piled (PyData.shownAll ds) ≤ 26 * nodesAll ds ∧ PyData.showableAll ds = true ∧ PyData.hasDictAll ds = false
  | [], _ => ⟨by simp [PyData.shownAll, nodesAll, piled], by simp [PyData.showableAll], by simp [PyData.hasDictAll]⟩
  | d :: ds, h => by
    have h : smallD d = true ∧ smallAll ds = true := by simpa [smallAll] using h
    obtain ⟨a1, a2, a3⟩ := small_shown d h.1
    obtain ⟨b1, b2, b3⟩ := small_shownAll ds h.2
    refine ⟨?_, by simp [PyData.showableAll, a2, b2], by simp [PyData.hasDictAll, a3, b3]⟩
    simp only [PyData.shownAll, nodesAll, piled_cons]
    omega
end
/-- data that repr may show -/
def ShowOk (d : PyData) : Prop := smallD d = true ∧ nodes d ≤ 600000 ∧ d.depth ≤ 60
instance (d : PyData) : Decidable (ShowOk d) := by unfold ShowOk; infer_instance
def rRepr : List V → Hp → VK → Prop := fun xs H Q => ∃ (a : Addr) (d : PyData), xs = [.ref a] ∧ Rp H (.ref a) d ∧ ShowOk d ∧ Q (.str d.shown) H
theorem call_reprD {X : Cx} (hg : X.A.guards = some []) (hu : X.A.units + 64 < cLine) : CallR X (.builtin "repr") rRepr := by
  intro pins s σ H xs us Q I r h
  obtain ⟨a, d, rfl, rp, ⟨ok, nd, dp⟩, q⟩ := h
  obtain ⟨h1, h2, h3⟩ := small_shown d ok
  cases r with
  | cons ra rn =>
    cases rn
    cases ra
    obtain ⟨as, reads⟩ := Dp.reads I d _ _ rp.dp rfl
    refine repr_of_reads' reads h2 (PyData.noDict_hsm h3) hg (by omega) (fun _ _ e => e) (fun h' u tk k => ⟨.str d.shown, H, I.kept k, ⟨u, rfl⟩, q⟩) ?_
    show d.shown.length ≤ 2 ^ 24
    omega
/-- small data: nodes, depth -/
def Sm (n k : Nat) (d : PyData) : Prop := smallD d = true ∧ nodes d ≤ n ∧ d.depth ≤ k
theorem Sm.imp {n k n' k' : Nat} {d : PyData} (h : Sm n k d) (a : n ≤ n') (b : k ≤ k') : Sm n' k' d := ⟨h.1, Nat.le_trans h.2.1 a, Nat.le_trans h.2.2 b⟩
theorem Sm.show {n k : Nat} {d : PyData} (h : Sm n k d) (a : n ≤ 600000 := by decide) (b : k ≤ 60 := by decide) : ShowOk d := h.imp a b
theorem sm_non : Sm 1 0 .none := ⟨by simp [smallD], by simp [nodes], by simp [PyData.depth]⟩
theorem sm_bool (b : Bool) : Sm 1 0 (.bool b) := ⟨by simp [smallD], by simp [nodes], by simp [PyData.depth]⟩
theorem sm_int {i : Int} (h : -10000000000000000000 < i ∧ i < 10000000000000000000) : Sm 1 0 (.int i) := ⟨by simp only [smallD, decide_eq_true_eq]; omega, by simp [nodes], by simp [PyData.depth]⟩
theorem sm_all {α : Type} {f : α → PyData} {n k : Nat} : ∀ {xs : List α}, (∀ x ∈ xs, Sm n k (f x)) → smallAll (xs.map f) = true ∧ nodesAll (xs.map f) ≤ xs.length * n ∧ PyData.depthAll (xs.map f) ≤ k
  | [], _ => ⟨by simp [smallAll], by simp [nodesAll], by simp [PyData.depthAll]⟩
  | x :: xs, h => by
    obtain ⟨a1, a2, a3⟩ := h x List.mem_cons_self
    obtain ⟨b1, b2, b3⟩ := sm_all fun y hy => h y (List.mem_cons_of_mem _ hy)
    refine ⟨by simp [smallAll, a1, b1], ?_, ?_⟩
    · simp only [List.map_cons, nodesAll, List.length_cons, Nat.succ_mul]
      omega
    · simp only [List.map_cons, PyData.depthAll]
      omega
theorem sm_L {α : Type} {f : α → PyData} {n k m : Nat} {xs : List α} (h : ∀ x ∈ xs, Sm n k (f x)) (hm : xs.length ≤ m) : Sm (1 + m * n) (k + 1) (encL f xs) := by
  obtain ⟨a1, a2, a3⟩ := sm_all h
  refine ⟨by simp [encL, smallD, a1], ?_, ?_⟩
  · have := Nat.mul_le_mul_right n hm
    simp only [encL, nodes]
    omega
  · simp only [encL, PyData.depth]
    omega
theorem sm_ints {xs : List Int} {m : Nat} (h : ∀ x ∈ xs, -10000000000000000000 < x ∧ x < 10000000000000000000) (hm : xs.length ≤ m) : Sm (1 + m * 1) 1 (encL PyData.int xs) := sm_L (fun x hx => sm_int (h x hx)) hm
theorem sm_T2 {α β : Type} {f : α → PyData} {g : β → PyData} {n k m j : Nat} {p : α × β} (h1 : Sm n k (f p.1)) (h2 : Sm m j (g p.2)) : Sm (1 + n + m) (max k j + 1) (encT2 f g p) := by
  obtain ⟨a1, a2, a3⟩ := h1
  obtain ⟨b1, b2, b3⟩ := h2
  refine ⟨by simp [encT2, smallD, smallAll, a1, b1], ?_, ?_⟩
  · simp only [encT2, nodes, nodesAll]
    omega
  · simp only [encT2, PyData.depth, PyData.depthAll]
    omega
theorem sm_T3 {α β γ : Type} {f : α → PyData} {g : β → PyData} {h : γ → PyData} {n k m j l i : Nat} {p : α × β × γ} (h1 : Sm n k (f p.1)) (h2 : Sm m j (g p.2.1)) (h3 : Sm l i (h p.2.2)) : Sm (1 + n + m + l) (max k (max j i) + 1) (encT3 f g h p) := by
  obtain ⟨a1, a2, a3⟩ := h1
  obtain ⟨b1, b2, b3⟩ := h2
  obtain ⟨c1, c2, c3⟩ := h3
  refine ⟨by simp [encT3, smallD, smallAll, a1, b1, c1], ?_, ?_⟩
  · simp only [encT3, nodes, nodesAll]
    omega
  · simp only [encT3, PyData.depth, PyData.depthAll]
    omega
end Vx
namespace Vx
open PySem PySem.Spec PyProof.Rows L2
theorem new_ne2 {H : Hp} {L : List Addr} {x : Addr} (n : ∀ b ∈ L, H b = none) (h : H x ≠ none) : ∀ b ∈ L, b ≠ x := fun b hb z => h (z ▸ n b hb)
theorem upd_tree {α : Type} {f : α → Dt} {G H H' : Hp} {L L1 : List Addr} {vs : List V} {xs : List α} {k : Int} {v : V} {m : Addr} {y : α} (up : ∀ H' y, (∀ b ∈ L, b ∉ L1 → ∀ o, H b = some o → H' b = some o) → Ow G H' L1 v (f y) → OwAll G H' L vs ((setL xs k y).map f)) (x : SameX m H H') (hm : m ∈ L1) (w : Ow G H' L1 v (f y)) :
    OwAll G H' L vs ((setL xs k y).map f) := up H' y (fun c _ n o q => x c o q (fun z => n (z ▸ hm))) w
theorem Ow.toFrz {α : Type} {f : α → PyData} {G H : Hp} {L : List Addr} {v : V} {x : α} (w : Ow G H L v (oF f x)) : L = [] ∧ Rp G v (f x) := by
  unfold oF at w
  cases w with
  | frz r => exact ⟨rfl, r⟩
section
variable {α : Type} {f : α → Dt} {G H : Hp} {L : List Addr} {vs : List V} {xs : List α}
theorem OwAll.pin {i : Nat} {v : V} {x : α} (w : OwAll G H L vs (xs.map f)) (h : vs[i]? = some v) (hx : xs[i]? = some x) : ∃ L1, Ow G H L1 v (f x) ∧ ∀ b ∈ L1, b ∈ L := by
  obtain ⟨y, L1, h1, h2, h3⟩ := OwAll.turn w h
  rw [hx] at h1
  cases h1
  exact ⟨L1, h2, h3⟩
theorem OwAll.pinInts {i : Nat} {b : Addr} {xs : List (List Int)} {x : List Int} (w : OwAll G H L vs (xs.map (oL oI))) (h : vs[i]? = some (.ref b)) (hx : xs[i]? = some x) : H b = some (.lst (x.map V.int)) ∧ b ∈ L := by
  obtain ⟨L1, w1, h1⟩ := OwAll.pin w h hx
  obtain ⟨c, e, rfl, h2⟩ := Ow.toInts w1
  cases e
  exact ⟨h2, h1 _ List.mem_cons_self⟩
end
end Vx
namespace Vx
open PySem PySem.Spec PyProof.Rows L2
theorem lookup_relab {c : Str → Bool} {y : Str} : ∀ l : List (Str × NameKind), (l.lookup y = some .cell ∨ l.lookup y = some .free) →
    ((l.map fun (n, k) => if (k == .free && c n) then (n, NameKind.cell) else (n, k)).lookup y = some .cell ∨ (l.map fun (n, k) => if (k == .free && c n) then (n, NameKind.cell) else (n, k)).lookup y = some .free)
  | [], h => by simp at h
  | (n, k) :: r, h => by
    rw [List.map_cons]
    dsimp only
    by_cases e : y == n
    · have hk : k = .cell ∨ k = .free := by
        rw [List.lookup_cons, e] at h
        simpa using h
      by_cases q : (k == .free && c n) = true
      · left
        rw [if_pos q, List.lookup_cons, e]
      · rw [if_neg q, List.lookup_cons, e]
        simpa using hk
    · have e : (y == n) = false := by simpa using e
      rw [List.lookup_cons, e] at h
      have ih := lookup_relab (c := c) r h
      by_cases q : (k == .free && c n) = true
      · rw [if_pos q, List.lookup_cons, e]
        exact ih
      · rw [if_neg q, List.lookup_cons, e]
        exact ih
theorem blk_relabel {N : List Str} {sc scope : Scope} {env : Env} {own : List (Str × Nat)} (h : BlkOk N sc scope own) : BlkOk N (relabel sc env) scope own := by
  refine ⟨h.kind, h.uniq, h.ix, fun y hy e => ?_, h.own⟩
  have z := lookup_relab (c := fun n => env.scope.kind == .function && env.kindOf n == some .cell) (y := y.1) sc.names (h.free y hy e)
  unfold relabel
  simpa only [Bool.and_assoc] using z
end Vx
namespace Vx
open PySem PySem.Spec PyProof.Rows L2
theorem FnG.low {P : Program} {w : World} {K : PySem.W.Frag} {mg : Str → Option Value} {base : Heap} {cx : CXT} {j k : Nat} {f : Addr} {fd : FuncData} {ps : List Str} {sp : Sp} (F : FnG P w K mg base cx j f fd ps sp) (h : j ≤ k) : FnG P w K mg base cx k f fd ps sp := ⟨F.len, fun A o s H a us vs Q E r => F.run A o s H a us vs Q E (r.low h)⟩
/-! ### a local name that holds one of several defs -/
structure HeldX (P : Program) (w : World) (K : PySem.W.Frag) (mg : Str → Option Value) (base : Heap) (k n : Nat) (f : Addr) (sp : Sp) : Prop where
  ex : ∃ (fd : FuncData) (ps : List Str), FnG P w K mg base (L2.CX P w) k f fd ps sp ∧ PySem.W.keepIn K (.ref f) = true ∧ Bnd K fd ps n [] (fun vs _ => vs)
theorem HeldX.of {P : Program} {w : World} {K : PySem.W.Frag} {mg : Str → Option Value} {base : Heap} {j k n : Nat} {x : Str} {sp : Sp} {pats : List Pat} {a : Addr} (c : CalX P w K mg base j x sp pats) (hx : mg x = some (.ref a)) (hp : (n, [], fun vs _ => vs) ∈ pats) (hj : j ≤ k) : HeldX P w K mg base k n a sp := by
  obtain ⟨f, fd, ps, F, hm, kp, b⟩ := c.ex
  rw [hx] at hm
  injection hm with hm
  injection hm with hm
  subst hm
  exact ⟨fd, ps, F.low hj, kp, b _ hp⟩
def tCallF (i n : Nat) (L : List (Addr × Sp)) (W : WX) (t : TA) : TE := fun σ H Q => ∃ f sp, σ[i]? = some (some (.ref f)) ∧ (f, sp) ∈ L ∧ t σ H fun vs H1 => vs.length = n ∧ ([] : List V).length = 0 ∧ sp vs H1 Q (WE W σ)
theorem vx_callF {X : Cx} {k j i n : Nat} {x : Str} {p pos : Pos} {e : Expr} {es : List Expr} {t : TA} {W : WX} (L : List (Addr × Sp)) (A : ∀ q ∈ L, HeldX X.prog X.w X.K X.mg X.base k n q.1 q.2) (hr : RoomG j X.A) (hk : k ≤ j) (tkW : Takes X W) (hN : X.N[i]? = some x) (hv : Vis X.env.scope x) (ha : PA X (e :: es) t)
    (hdb : (x == ("__debug__" : Str)) = false := by decide) (hcd : (x == ("__classdict__" : Str)) = false := by decide) (he : starEach (e :: es) X.env = (false, eval e X.env) :: starEach es X.env := by rfl) (hpl : (backTo pos (starEach es X.env)).any (·.1) = false := by rfl) :
    PE X (.Call (.Name x p) (e :: es) [] pos) (tCallF i n L W t) := by
  constructor
  intro pins s σ H Q I h
  obtain ⟨f, sp, slot, mem, rest⟩ := h
  obtain ⟨fd, ps, F, kp, b⟩ := (A _ mem).ex
  refine wpAny_Call_Name_kw (thn ((pe_var (pos := p) hN hv hdb hcd).run pins s σ H (fun v H1 => v = .ref f ∧ H1 = H) I ⟨.ref f, slot, rfl, rfl⟩) ?_)
  rintro u s1 ⟨v, H1, I1, r1, rfl, rfl⟩
  cases r1
  refine PySem.W.callWith_K (h₀ := X.base) I.ok.mod.kin kp (thn (ha.run pos pins s1 σ _ _ I1 rest) ?_) he hpl
  rintro us s2 ⟨vs, H2, I2, r, l1, l2, q⟩
  exact ⟨I2.kIn, run_X (us := us) (ws := []) (zs := []) F (hr.low hk) b tkW I2 r .nil l1 l2 q⟩
/-! ### the least of a list, the place of an item -/
def minL : List Int → Int
  | [] => 0
  | [x] => x
  | x :: y :: r => if x ≤ minL (y :: r) then x else minL (y :: r)
theorem minL_spec : ∀ (xs : List Int), xs ≠ [] → minL xs ∈ xs ∧ ∀ y ∈ xs, minL xs ≤ y
  | [], h => absurd rfl h
  | [x], _ => ⟨List.mem_cons_self, fun y hy => by rw [List.mem_singleton.mp hy]; exact Int.le_refl x⟩
  | x :: y :: r, _ => by
    obtain ⟨h1, h2⟩ := minL_spec (y :: r) (fun z => nomatch z)
    unfold minL
    split
    · refine ⟨List.mem_cons_self, fun z hz => ?_⟩
      rcases List.mem_cons.mp hz with rfl | hz
      · exact Int.le_refl _
      · have := h2 z hz
        omega
    · refine ⟨List.mem_cons_of_mem _ h1, fun z hz => ?_⟩
      rcases List.mem_cons.mp hz with rfl | hz
      · omega
      · exact h2 z hz
def maxL (xs : List Int) : Int := -(minL (xs.map fun x => -x))
theorem maxL_spec (xs : List Int) (h : xs ≠ []) : maxL xs ∈ xs ∧ ∀ y ∈ xs, y ≤ maxL xs := by
  obtain ⟨h1, h2⟩ := minL_spec (xs.map fun x => -x) (by simpa using h)
  obtain ⟨z, hz, e⟩ := List.mem_map.mp h1
  unfold maxL
  refine ⟨by rw [← e, Int.neg_neg]; exact hz, fun y hy => ?_⟩
  have := h2 _ (List.mem_map_of_mem hy)
  omega
section
variable {X : Cx} {K : PySem.W.Frag}
def rMinL (K : PySem.W.Frag) : List V → Hp → VK → Prop := fun vs H Q => ∃ (a : Addr) (ns : List Int), vs = [V.ref a] ∧ SqL K H a (ns.map V.int) ∧ ns ≠ [] ∧ Q (.int (minL ns)) H
def rMaxL (K : PySem.W.Frag) : List V → Hp → VK → Prop := fun vs H Q => ∃ (a : Addr) (ns : List Int), vs = [V.ref a] ∧ SqL K H a (ns.map V.int) ∧ ns ≠ [] ∧ Q (.int (maxL ns)) H
theorem cr_minL (hc : X.calm = true) (hK : X.K = K := by rfl) : CallR X (.builtin "min") (rMinL K) := by
  subst hK
  intro pins s σ H vs us Q I r h
  obtain ⟨a, ns, rfl, hs, hn, q⟩ := h
  refine cr_min hc pins s σ H _ us Q I r ⟨a, ns, rfl, hs, List.length_pos_iff.mpr hn, fun m hm hle => ?_⟩
  obtain ⟨h1, h2⟩ := minL_spec ns hn
  have e : m = minL ns := Int.le_antisymm (by have := hle _ h1; omega) (h2 m hm)
  rw [e]
  exact q
theorem cr_maxL (hc : X.calm = true) (hK : X.K = K := by rfl) : CallR X (.builtin "max") (rMaxL K) := by
  subst hK
  intro pins s σ H vs us Q I r h
  obtain ⟨a, ns, rfl, hs, hn, q⟩ := h
  refine cr_max hc pins s σ H _ us Q I r ⟨a, ns, rfl, hs, List.length_pos_iff.mpr hn, fun m hm hle => ?_⟩
  obtain ⟨h1, h2⟩ := maxL_spec ns hn
  have e : m = maxL ns := Int.le_antisymm (h2 m hm) (by have := hle _ h1; omega)
  rw [e]
  exact q
end
end Vx
namespace Vx
open PySem PySem.Spec PyProof.Rows L2
def idxL (ns : List Int) (i : Int) : Int := (ns.idxOf i : Nat)
def rIndexI (K : PySem.W.Frag) : V → List V → Hp → VK → Prop := fun x xs H Q => ∃ (a : Addr) (ns : List Int) (i : Int), x = V.ref a ∧ xs = [.int i] ∧ SqL K H a (ns.map V.int) ∧ i ∈ ns ∧ Q (.int (idxL ns i)) H
theorem mt_indexI {X : Cx} {K : PySem.W.Frag} (hK : X.K = K := by rfl) : MtR X "list.index" (rIndexI K) := by
  subst hK
  intro pins s σ H x xs v us Q I rx rxs h
  obtain ⟨a, ns, i, rfl, rfl, hs, hi, q⟩ := h
  have hl := List.idxOf_lt_length_of_mem hi
  refine mt_index pins s σ H _ _ v us Q I rx rxs ⟨a, _, .int i, ns.idxOf i, .int i, rfl, rfl, hs, rfl, flat_ints ns, ?_, by simp [eqV], fun m z hm hz => ?_, q⟩
  · rw [List.getElem?_map, List.getElem?_eq_getElem hl, List.getElem_idxOf hl] <;> rfl
  · rw [List.getElem?_map] at hz
    cases e : ns[m]? with
    | none => rw [e] at hz; cases hz
    | some y =>
      rw [e] at hz
      cases hz
      have hml : m < ns.length := by omega
      have hy : ns[m] = y := by
        rw [List.getElem?_eq_getElem hml] at e
        exact Option.some.inj e
      have := List.not_of_lt_findIdx (p := (· == i)) (xs := ns) (i := m) hm
      simp only [beq_iff_eq, hy] at this
      simp [eqV, this]
theorem cW_aftgo {σ ρ τ : Type} {s : σ} {kr : ρ → Rx τ} {k : σ → Rx τ} {K : τ → Prop} {E : Nat → Prop} (h : cW ((Lp.go s : Lp σ ρ).aft kr k) K E) : cW (k s) K E := h
end Vx
/-! # fourth part: reckoning with functions that may refuse -/
namespace Vx
open PySem PySem.Spec PyProof.Rows L2
section
variable {α β σ ρ τ : Type}
theorem bind_ok (a : α) (f : α → Rx β) : (Rx.ok a).bind f = f a := rfl
theorem bind_er (e : Nat) (f : α → Rx β) : (Rx.er e : Rx α).bind f = .er e := rfl
theorem grd_pos {p : Prop} {dp : Decidable p} {m : Rx α} (h : p) : grd p m = m := if_pos h
theorem bnd_eq (a : α) (f : α → Rx β) : bnd a f = f a := rfl
theorem noEr_ok (a : α) : noEr (.ok a : Rx α) = .ok a := rfl
theorem tryR_ok {cs : List Nat} (a : α) (f : α → Rx β) (g : Nat → Rx β) : tryR (.ok a) cs f g = f a := rfl
theorem tryR_er {cs : List Nat} {e : Nat} (h : e ∈ cs) (f : α → Rx β) (g : Nat → Rx β) : tryR (.er e) cs f g = g e := if_pos h
theorem aft_go (s : σ) (kr : ρ → Rx τ) (k : σ → Rx τ) : (Lp.go s : Lp σ ρ).aft kr k = k s := rfl
theorem aft_rt (r : ρ) (kr : ρ → Rx τ) (k : σ → Rx τ) : (Lp.rt r : Lp σ ρ).aft kr k = kr r := rfl
/-- gives a value of which P holds -/
def Gv (m : Rx α) (P : α → Prop) : Prop := ∃ v, m = .ok v ∧ P v
theorem Gv.ok {a : α} {P : α → Prop} (h : P a) : Gv (.ok a) P := ⟨a, rfl, h⟩
theorem Gv.of_eq {m : Rx α} {a : α} {P : α → Prop} (e : m = .ok a) (h : P a) : Gv m P := ⟨a, e, h⟩
theorem Gv.bind {m : Rx α} {f : α → Rx β} {P : α → Prop} {Q : β → Prop} (h : Gv m P) (k : ∀ v, P v → Gv (f v) Q) : Gv (m.bind f) Q := by
  obtain ⟨v, rfl, p⟩ := h
  exact k v p
theorem Gv.bind_eq {m : Rx α} {f : α → Rx β} {a : α} {Q : β → Prop} (h : m = .ok a) (k : Gv (f a) Q) : Gv (m.bind f) Q := by
  subst h
  exact k
theorem Gv.grd {p : Prop} {dp : Decidable p} {m : Rx α} {Q : α → Prop} (h : p) (k : Gv m Q) : Gv (Vx.grd p m) Q := by
  rw [grd_pos h]
  exact k
theorem Gv.bnd {a : α} {f : α → Rx β} {Q : β → Prop} (k : ∀ x, x = a → Gv (f x) Q) : Gv (Vx.bnd a f) Q := k a rfl
theorem Gv.ite {p : Prop} {dp : Decidable p} {a b : Rx α} {Q : α → Prop} (h1 : p → Gv a Q) (h2 : ¬ p → Gv b Q) : Gv (if p then a else b) Q := by
  split
  · exact h1 ‹_›
  · exact h2 ‹_›
theorem Gv.pos {p : Prop} {dp : Decidable p} {a b : Rx α} {Q : α → Prop} (h : p) (k : Gv a Q) : Gv (if p then a else b) Q := by rwa [if_pos h]
theorem Gv.neg {p : Prop} {dp : Decidable p} {a b : Rx α} {Q : α → Prop} (h : ¬ p) (k : Gv b Q) : Gv (if p then a else b) Q := by rwa [if_neg h]
theorem Gv.imp {m : Rx α} {P Q : α → Prop} (h : Gv m P) (k : ∀ v, P v → Q v) : Gv m Q := by
  obtain ⟨v, e, p⟩ := h
  exact ⟨v, e, k v p⟩
theorem Gv.noEr {m : Rx α} {P : α → Prop} (h : Gv m P) : Gv (Vx.noEr m) P := by
  obtain ⟨v, rfl, p⟩ := h
  exact ⟨v, rfl, p⟩
theorem Gv.tryOk {m : Rx α} {cs : List Nat} {f : α → Rx β} {g : Nat → Rx β} {P : α → Prop} {Q : β → Prop} (h : Gv m P) (k : ∀ v, P v → Gv (f v) Q) : Gv (tryR m cs f g) Q := by
  obtain ⟨v, rfl, p⟩ := h
  exact k v p
theorem Gv.tryEr {m : Rx α} {cs : List Nat} {e : Nat} {f : α → Rx β} {g : Nat → Rx β} {Q : β → Prop} (h : m = .er e) (hm : e ∈ cs) (k : Gv (g e) Q) : Gv (tryR m cs f g) Q := by
  subst h
  rw [tryR_er hm]
  exact k
theorem Gv.get {m : Rx α} {a : α} (h : Gv m (fun v => v = a)) : m = .ok a := by
  obtain ⟨v, e, rfl⟩ := h
  exact e
theorem Gv.eq {m : Rx α} {P : α → Prop} (h : Gv m P) : ∃ v, m = .ok v ∧ P v := h
/-- a loop that keeps P -/
theorem Gv.forS {P : Nat → σ → Prop} {xs : List α} {s : σ} {f : σ → α → Rx σ} (h0 : P 0 s) (hs : ∀ i x s, xs[i]? = some x → P i s → Gv (f s x) (P (i + 1))) : Gv (Vx.forS xs s f) (P xs.length) := by
  induction xs generalizing s P with
  | nil => exact .ok h0
  | cons x r ih =>
    refine Gv.bind (hs 0 x s rfl h0) fun s' p => ?_
    exact ih (P := fun i => P (i + 1)) p fun i y s hy q => hs (i + 1) y s (by simpa using hy) q
theorem Gv.forR {P : Nat → σ → Prop} {xs : List α} {s : σ} {f : σ → α → Rx (Lp σ ρ)} (h0 : P 0 s) (hs : ∀ i x s, xs[i]? = some x → P i s → Gv (f s x) (fun l => ∃ s', l = .go s' ∧ P (i + 1) s')) : Gv (Vx.forR xs s f) (fun l => ∃ s', l = .go s' ∧ P xs.length s') := by
  induction xs generalizing s P with
  | nil => exact .ok ⟨s, rfl, h0⟩
  | cons x r ih =>
    refine Gv.bind (hs 0 x s rfl h0) ?_
    rintro _ ⟨s', rfl, p⟩
    exact ih (P := fun i => P (i + 1)) p fun i y s hy q => hs (i + 1) y s (by simpa using hy) q
/-- a loop that carries nothing -/
theorem forR_unit {xs : List α} {f : Unit → α → Rx (Lp Unit ρ)} (h : ∀ x ∈ xs, f () x = .ok (.go ())) : Vx.forR xs () f = .ok (.go ()) := by
  induction xs with
  | nil => rfl
  | cons x r ih =>
    show (f () x).bind _ = _
    rw [h x List.mem_cons_self]
    exact ih fun y hy => h y (List.mem_cons_of_mem _ hy)
theorem forS_pure {xs : List α} {s : σ} {f : σ → α → Rx σ} {g : σ → α → σ} (h : ∀ s x, x ∈ xs → f s x = .ok (g s x)) : Vx.forS xs s f = .ok (xs.foldl g s) := by
  induction xs generalizing s with
  | nil => rfl
  | cons x r ih =>
    show (f s x).bind _ = _
    rw [h s x List.mem_cons_self]
    exact ih fun s y hy => h s y (List.mem_cons_of_mem _ hy)
theorem mapA_pure {xs : List α} {acc : List β} {f : α → Rx β} {g : α → β} (h : ∀ x ∈ xs, f x = .ok (g x)) (hl : acc.length + xs.length ≤ 1000000) : mapA xs acc f = .ok (acc ++ xs.map g) := by
  induction xs generalizing acc with
  | nil => simp [mapA]
  | cons x r ih =>
    rw [List.length_cons] at hl
    unfold mapA
    rw [grd_pos (by omega), h x List.mem_cons_self, bind_ok, ih (fun y hy => h y (List.mem_cons_of_mem _ hy)) (by rw [List.length_append, List.length_cons, List.length_nil]; omega)]
    simp
theorem mapA_pure0 {xs : List α} {f : α → Rx β} {g : α → β} (h : ∀ x ∈ xs, f x = .ok (g x)) (hl : xs.length ≤ 1000000) : mapA xs [] f = .ok (xs.map g) := by
  rw [mapA_pure h (by simpa using hl)]
  rfl
theorem mapF_pure {xs : List α} {acc : List β} {f : α → Rx (Option β)} {g : α → Option β} (h : ∀ x ∈ xs, f x = .ok (g x)) (hl : acc.length + xs.length ≤ 1000000) : mapF xs acc f = .ok (acc ++ xs.filterMap g) := by
  induction xs generalizing acc with
  | nil => simp [mapF]
  | cons x r ih =>
    rw [List.length_cons] at hl
    unfold mapF
    rw [grd_pos (by omega), h x List.mem_cons_self, bind_ok]
    cases e : g x with
    | none =>
      show mapF r acc f = _
      rw [ih (fun y hy => h y (List.mem_cons_of_mem _ hy)) (by omega), List.filterMap_cons, e]
    | some z =>
      show mapF r (acc ++ [z]) f = _
      rw [ih (fun y hy => h y (List.mem_cons_of_mem _ hy)) (by rw [List.length_append, List.length_cons, List.length_nil]; omega), List.filterMap_cons, e]
      simp
/-- a while that ends: m falls -/
theorem Gv.whileR {P : σ → Prop} {R : σ → Prop} (m : σ → Nat) {f : σ → Rx (Lp σ ρ)} (hs : ∀ s, P s → Gv (f s) (fun l => (∃ s', l = .go s' ∧ P s' ∧ m s' < m s) ∨ ∃ s', l = .bk s' ∧ R s')) : ∀ {n : Nat} {s : σ}, P s → m s < n → Gv (Vx.whileR n s f) (fun l => ∃ s', l = .go s' ∧ R s') := by
  intro n
  induction n with
  | zero => intro s _ h; exact absurd h (Nat.not_lt_zero _)
  | succ n ih =>
    intro s p h
    refine Gv.bind (hs s p) ?_
    rintro _ (⟨s', rfl, p', l⟩ | ⟨s', rfl, r⟩)
    · exact ih p' (by omega)
    · exact .ok ⟨s', rfl, r⟩
end
theorem rng_mem {lo x : Int} {n : Nat} (h : x ∈ rng lo n) : lo ≤ x ∧ x < lo + n := by
  unfold rng at h
  obtain ⟨j, hj, rfl⟩ := List.mem_map.mp h
  have := List.mem_range.mp hj
  omega
theorem rng_at {lo x : Int} {n i : Nat} (h : (rng lo n)[i]? = some x) : x = lo + i ∧ i < n := by
  have hl := get_len h
  rw [rng_len] at hl
  rw [rng_get hl] at h
  exact ⟨(Option.some.inj h).symm, hl⟩
end Vx
namespace Vx
open PySem PySem.Spec PyProof.Rows L2
structure St_Format where
  width : Int
  height : Int
  depth : Int
  chroma : Int
deriving DecidableEq
def F__law_draws_b1 (free_15 : Bool) (found_33 : (List Int)) (rest_34 : Int) (state_35 : Int) (it38 : Int) : Rx ((List Int) × Int × Int) :=
  (if free_15 = true then (if 1 < rest_34 then grd (0 < (it38 : Int)) <| grd ((found_33).length ≤ 1000000) <| bnd ((found_33) ++ [(rest_34 % it38)]) fun y49 => grd (0 < (it38 : Int) ∧ (it38 : Int) < 2 ^ 128) <| bnd ((rest_34 / it38)) fun rest_51 => .ok ((y49), (rest_51), (state_35)) else bnd ((((state_35 * 48271) + 11) % 2147483647)) fun state_52 => bnd ((((state_52 * 69621) + 7) % 2147483647)) fun state_53 => grd (0 < (it38 : Int)) <| grd ((found_33).length ≤ 1000000) <| bnd ((found_33) ++ [((state_53 / 13) % it38)]) fun y62 => .ok ((y62), (rest_34), (state_53))) else bnd ((((state_35 * 48271) + 11) % 2147483647)) fun state_63 => bnd ((((state_63 * 69621) + 7) % 2147483647)) fun state_64 => grd (0 < (it38 : Int)) <| grd ((found_33).length ≤ 1000000) <| bnd ((found_33) ++ [((state_64 / 13) % it38)]) fun y73 => .ok ((y73), (rest_34), (state_64)))

def F__law_draws_r1 (found_79 : (List Int)) (rest_80 : Int) (state_81 : Int) : Rx (List Int) :=
  .ok (found_79)

def F__law_draws (cell' : Int) (limits' : (List Int)) : Rx (List Int) :=
  bnd ((if cell' < 0 then -cell' else cell')) fun rest_10 => bnd ((rest_10 % 2147483647)) fun state_11 => bnd ((decide (cell' < 0) || decide (((10 : Int) ^ Int.toNat 18) ≤ cell'))) fun free_14 => Rx.bind (forS (limits') ((([] : (List Int))), (rest_10), (state_11)) (fun s x => F__law_draws_b1 (free_14) (s.1) (s.2.1) (s.2.2) x)) fun s => F__law_draws_r1  (s.1) (s.2.1) (s.2.2)

def F_Format___init__ (width' : Int) (height' : Int) (depth' : Int) (chroma' : Int) : Rx St_Format :=
  (if 1 ≤ width' then (if width' ≤ 256 then (if 1 ≤ height' then (if height' ≤ 256 then (if 8 ≤ depth' then (if depth' ≤ 12 then (if 0 ≤ chroma' then (if chroma' ≤ 2 then .ok (⟨width', height', depth', chroma'⟩ : St_Format) else .er 1) else .er 1) else .er 1) else .er 1) else .er 1) else .er 1) else .er 1) else .er 1)

def F__law_cell (script' : (List Int)) (k' : Int) : Rx Int :=
  (if k' < (((script') : (List Int)).length : Int) then grd (-((script').length : Int) ≤ k' ∧ k' < ((script').length : Int)) <| .ok ((itD (script') (k'))) else .ok (0))

def F__law_shape_k1 (chroma_128 : Int) (luma_129 : (Int × Int)) : Rx (List (Int × Int)) :=
  grd (-(([[luma_129], [luma_129, (1, 16), (1, 16)], [luma_129, luma_129, luma_129]]).length : Int) ≤ chroma_128 ∧ chroma_128 < (([[luma_129], [luma_129, (1, 16), (1, 16)], [luma_129, luma_129, luma_129]]).length : Int)) <| .ok ((itD ([[luma_129], [luma_129, (1, 16), (1, 16)], [luma_129, luma_129, luma_129]]) (chroma_128)))

def F__law_shape (chroma' : Int) (size' : Int) : Rx (List (Int × Int)) :=
  Rx.bind (((if (size' : Int) = 4 then .ok ((4, 16)) else .ok ((1, 64))) : Rx ((Int × Int)))) fun s => F__law_shape_k1 (chroma') s

def F_Format_planes (self' : St_Format) : Rx Int :=
  .ok ((if (self'.chroma : Int) = 0 then 1 else 3))

def F_level_shape (fmt' : St_Format) (size' : Int) : Rx (List (Int × Int)) :=
  (if (size' : Int) ∈ ([4, 8] : List Int) then (if (size' : Int) = 8 then (if (fmt'.chroma : Int) = 1 then Rx.bind (noEr (F_Format_planes (fmt'))) fun v306 => grd (-(2 ^ 63) ≤ ((v306 - 1) : Int) ∧ ((v306 - 1) : Int) < 2 ^ 63 ∧ ([(1, 16)] : (List (Int × Int))).length * Int.toNat ((v306 - 1)) ≤ 1000000) <| grd (([(1, 64)] : (List (Int × Int))).length + (repL ([(1, 16)]) ((v306 - 1)) : (List (Int × Int))).length ≤ 1000000) <| .ok (([(1, 64)]) ++ (repL ([(1, 16)]) ((v306 - 1)))) else Rx.bind (noEr (F_Format_planes (fmt'))) fun v366 => grd (-(2 ^ 63) ≤ ((v366 - 1) : Int) ∧ ((v366 - 1) : Int) < 2 ^ 63 ∧ ([(1, 64)] : (List (Int × Int))).length * Int.toNat ((v366 - 1)) ≤ 1000000) <| grd (([(1, 64)] : (List (Int × Int))).length + (repL ([(1, 64)]) ((v366 - 1)) : (List (Int × Int))).length ≤ 1000000) <| .ok (([(1, 64)]) ++ (repL ([(1, 64)]) ((v366 - 1))))) else (if (fmt'.chroma : Int) = 1 then Rx.bind (noEr (F_Format_planes (fmt'))) fun v451 => grd (-(2 ^ 63) ≤ ((v451 - 1) : Int) ∧ ((v451 - 1) : Int) < 2 ^ 63 ∧ ([(1, 16)] : (List (Int × Int))).length * Int.toNat ((v451 - 1)) ≤ 1000000) <| grd (([(4, 16)] : (List (Int × Int))).length + (repL ([(1, 16)]) ((v451 - 1)) : (List (Int × Int))).length ≤ 1000000) <| .ok (([(4, 16)]) ++ (repL ([(1, 16)]) ((v451 - 1)))) else Rx.bind (noEr (F_Format_planes (fmt'))) fun v511 => grd (-(2 ^ 63) ≤ ((v511 - 1) : Int) ∧ ((v511 - 1) : Int) < 2 ^ 63 ∧ ([(4, 16)] : (List (Int × Int))).length * Int.toNat ((v511 - 1)) ≤ 1000000) <| grd (([(4, 16)] : (List (Int × Int))).length + (repL ([(4, 16)]) ((v511 - 1)) : (List (Int × Int))).length ≤ 1000000) <| .ok (([(4, 16)]) ++ (repL ([(4, 16)]) ((v511 - 1)))))) else .er 2)

def F_zero_levels_c2 (length_614 : Int) (it647 : Int) : Rx (List Int) :=
  grd (-(2 ^ 63) ≤ (length_614 : Int) ∧ (length_614 : Int) < 2 ^ 63 ∧ ([0]).length * Int.toNat (length_614) ≤ 1000000) <| .ok (repL ([0]) (length_614))

def F_zero_levels_c1 (it612 : (Int × Int)) : Rx (List (List Int)) :=
  grd (-(2 ^ 62) ≤ it612.1 ∧ it612.1 < 2 ^ 62) <| Rx.bind (mapA (rng (0) (Int.toNat (it612.1))) [] (fun x => noEr (F_zero_levels_c2 (it612.2) x))) fun v615 => .ok v615

def F_zero_levels (fmt' : St_Format) (size' : Int) : Rx (List (List (List Int))) :=
  Rx.bind (F_level_shape (fmt') size') fun v551 => Rx.bind (mapA (v551) [] (fun x => noEr (F_zero_levels_c1  x))) fun v565 => .ok (v565)

def F__law_refused_k2 (count_742 : Int) : Rx Bool :=
  .ok (decide ((count_742 : Int) = 2))

def F__law_refused_k1 (fmt_709 : St_Format) (size_710 : Int) (count_711 : Int) : Rx Bool :=
  Rx.bind ((tryR (F_zero_levels (fmt_709) size_710) [2] (fun v747 => .ok (count_711)) (fun _ => bnd ((count_711 + (if true = true then 1 else 0))) fun count_771 => .ok (count_771)) : Rx (Int))) fun s => F__law_refused_k2  s

def F__law_refused (fmt' : St_Format) (size' : Int) : Rx Bool :=
  Rx.bind ((tryR (F_level_shape (fmt') size') [2] (fun v716 => .ok (0)) (fun _ => bnd ((0 + (if (true && (!false)) = true then 1 else 0))) fun count_737 => .ok (count_737)) : Rx (Int))) fun s => F__law_refused_k1 (fmt') (size') s

def F_law_c3 (shape_947 : (Int × Int)) (it986 : Int) : Rx (List Int) :=
  grd (-(2 ^ 63) ≤ (shape_947.2 : Int) ∧ (shape_947.2 : Int) < 2 ^ 63 ∧ ([0]).length * Int.toNat (shape_947.2) ≤ 1000000) <| .ok (repL ([0]) (shape_947.2))

def F_law_c2 (it945 : (Int × Int)) : Rx (List (List Int)) :=
  grd (-(2 ^ 62) ≤ it945.1 ∧ it945.1 < 2 ^ 62) <| Rx.bind (mapA (rng (0) (Int.toNat (it945.1))) [] (fun x => noEr (F_law_c3 (it945) x))) fun v948 => .ok v948

def F_law_c5 (shape_1230 : (Int × Int)) (it1277 : Int) : Rx (List Int) :=
  grd (-(2 ^ 63) ≤ (shape_1230.2 : Int) ∧ (shape_1230.2 : Int) < 2 ^ 63 ∧ ([0]).length * Int.toNat (shape_1230.2) ≤ 1000000) <| .ok (repL ([0]) (shape_1230.2))

def F_law_c4 (it1228 : (Int × Int)) : Rx (List (List Int)) :=
  grd (-(2 ^ 62) ≤ it1228.1 ∧ it1228.1 < 2 ^ 62) <| Rx.bind (mapA (rng (0) (Int.toNat (it1228.1))) [] (fun x => noEr (F_law_c5 (it1228) x))) fun v1231 => .ok v1231

def F_law_b1 (draws_824 : (List Int)) (fmt_825 : St_Format) (it857 : Int) : Rx (Lp Unit Bool) :=
  grd (-((draws_824).length : Int) ≤ 3 ∧ 3 < ((draws_824).length : Int)) <| Rx.bind (F__law_shape ((itD (draws_824) (3))) it857) fun v859 => Rx.bind (F_level_shape (fmt_825) it857) fun v874 => (if (v874 : (List (Int × Int))) = v859 then Rx.bind (mapA (v859) [] (fun x => noEr (F_law_c2  x))) fun v889 => Rx.bind (F_zero_levels (fmt_825) it857) fun v1060 => (if (v1060 : (List (List (List Int)))) = v889 then grd (-((draws_824).length : Int) ≤ 5 ∧ 5 < ((draws_824).length : Int)) <| grd (0 < ((((v859) : (List (Int × Int))).length : Int) : Int)) <| bnd (((itD (draws_824) (5)) % (((v859) : (List (Int × Int))).length : Int))) fun plane_1085 => grd (-((draws_824).length : Int) ≤ 6 ∧ 6 < ((draws_824).length : Int)) <| grd (-((v859).length : Int) ≤ plane_1085 ∧ plane_1085 < ((v859).length : Int)) <| grd (0 < ((itD (v859) (plane_1085)).1 : Int)) <| grd (-((draws_824).length : Int) ≤ 7 ∧ 7 < ((draws_824).length : Int)) <| grd (-((v859).length : Int) ≤ plane_1085 ∧ plane_1085 < ((v859).length : Int)) <| grd (0 < ((itD (v859) (plane_1085)).2 : Int)) <| grd (-((v1060).length : Int) ≤ plane_1085 ∧ plane_1085 < ((v1060).length : Int)) <| grd (-(((itD (v1060) (plane_1085))).length : Int) ≤ ((itD (draws_824) (6)) % (itD (v859) (plane_1085)).1) ∧ ((itD (draws_824) (6)) % (itD (v859) (plane_1085)).1) < (((itD (v1060) (plane_1085))).length : Int)) <| grd (-(((itD ((itD (v1060) (plane_1085))) (((itD (draws_824) (6)) % (itD (v859) (plane_1085)).1)))).length : Int) ≤ ((itD (draws_824) (7)) % (itD (v859) (plane_1085)).2) ∧ ((itD (draws_824) (7)) % (itD (v859) (plane_1085)).2) < (((itD ((itD (v1060) (plane_1085))) (((itD (draws_824) (6)) % (itD (v859) (plane_1085)).1)))).length : Int)) <| bnd (setL ((itD (v1060) (plane_1085))) (((itD (draws_824) (6)) % (itD (v859) (plane_1085)).1)) (setL ((itD ((itD (v1060) (plane_1085))) (((itD (draws_824) (6)) % (itD (v859) (plane_1085)).1)))) (((itD (draws_824) (7)) % (itD (v859) (plane_1085)).2)) (5))) fun y1156 => bnd (setL (v1060) (plane_1085) (y1156)) fun y1159 => Rx.bind (mapA (v859) [] (fun x => noEr (F_law_c4  x))) fun v1160 => grd (-((v1160).length : Int) ≤ plane_1085 ∧ plane_1085 < ((v1160).length : Int)) <| grd (-(((itD (v1160) (plane_1085))).length : Int) ≤ ((itD (draws_824) (6)) % (itD (v859) (plane_1085)).1) ∧ ((itD (draws_824) (6)) % (itD (v859) (plane_1085)).1) < (((itD (v1160) (plane_1085))).length : Int)) <| grd (-(((itD ((itD (v1160) (plane_1085))) (((itD (draws_824) (6)) % (itD (v859) (plane_1085)).1)))).length : Int) ≤ ((itD (draws_824) (7)) % (itD (v859) (plane_1085)).2) ∧ ((itD (draws_824) (7)) % (itD (v859) (plane_1085)).2) < (((itD ((itD (v1160) (plane_1085))) (((itD (draws_824) (6)) % (itD (v859) (plane_1085)).1)))).length : Int)) <| bnd (setL ((itD (v1160) (plane_1085))) (((itD (draws_824) (6)) % (itD (v859) (plane_1085)).1)) (setL ((itD ((itD (v1160) (plane_1085))) (((itD (draws_824) (6)) % (itD (v859) (plane_1085)).1)))) (((itD (draws_824) (7)) % (itD (v859) (plane_1085)).2)) (5))) fun y1399 => bnd (setL (v1160) (plane_1085) (y1399)) fun y1402 => (if (y1159 : (List (List (List Int)))) = y1402 then grd (-((y1159).length : Int) ≤ (-1) ∧ (-1) < ((y1159).length : Int)) <| grd (((itD (y1159) ((-1)))).length ≤ 1000000) <| bnd (setL (y1159) ((-1)) (((itD (y1159) ((-1)))) ++ [([] : (List Int))])) fun y1444 => Rx.bind (F_zero_levels (fmt_825) it857) fun v1446 => (if (v1446 : (List (List (List Int)))) = v889 then .ok (.go ()) else .ok (.rt (false))) else .ok (.rt (false))) else .ok (.rt (false))) else .ok (.rt (false)))

def F_law_r1 (draws_826 : (List Int)) (fmt_827 : St_Format) : Rx Bool :=
  grd (-((draws_826).length : Int) ≤ 4 ∧ 4 < ((draws_826).length : Int)) <| bnd (((itD (draws_826) (4)) - 100)) fun size_1479 => (if decide ((size_1479 : Int) = 4) = true then .ok (true) else (if decide ((size_1479 : Int) = 8) = true then .ok (true) else Rx.bind (F__law_refused (fmt_827) size_1479) fun v1482 => .ok (v1482)))

def F_law (script' : (List Int)) : Rx Bool :=
  Rx.bind (F__law_cell (script') 0) fun v776 => Rx.bind (F__law_draws v776 ([256, 256, 5, 3, 200, 3, 4, 64])) fun v786 => grd (-((v786).length : Int) ≤ 0 ∧ 0 < ((v786).length : Int)) <| grd (-((v786).length : Int) ≤ 1 ∧ 1 < ((v786).length : Int)) <| grd (-((v786).length : Int) ≤ 2 ∧ 2 < ((v786).length : Int)) <| grd (-((v786).length : Int) ≤ 3 ∧ 3 < ((v786).length : Int)) <| Rx.bind (F_Format___init__ ((1 + (itD (v786) (0)))) ((1 + (itD (v786) (1)))) ((8 + (itD (v786) (2)))) ((itD (v786) (3)))) fun v810 => Rx.bind (forR ([4, 8]) () (fun s x => F_law_b1 (v786) (v810)  x)) fun l => l.aft Rx.ok fun s => F_law_r1 (v786) (v810) 
theorem cell_gv (s : List Int) (k : Int) (h : 0 ≤ k) : Gv (F__law_cell s k) (fun _ => True) := by
  unfold F__law_cell
  exact Gv.ite (fun c => Gv.grd ⟨by omega, c⟩ (.ok trivial)) fun _ => .ok trivial
def Inb : List Int → List Int → Prop
  | [], [] => True
  | v :: vs, l :: ls => 0 ≤ v ∧ v < l ∧ Inb vs ls
  | _, _ => False
theorem Inb.snoc : ∀ {vs ls : List Int} {y l : Int}, Inb vs ls → 0 ≤ y → y < l → Inb (vs ++ [y]) (ls ++ [l])
  | [], [], _, _, _, h0, h1 => ⟨h0, h1, trivial⟩
  | _ :: _, _ :: _, _, _, h, h0, h1 => ⟨h.1, h.2.1, Inb.snoc h.2.2 h0 h1⟩
  | [], _ :: _, _, _, h, _, _ => h.elim
  | _ :: _, [], _, _, h, _, _ => h.elim
theorem Inb.len : ∀ {vs ls : List Int}, Inb vs ls → vs.length = ls.length
  | [], [], _ => rfl
  | _ :: _, _ :: _, h => congrArg Nat.succ (Inb.len h.2.2)
  | [], _ :: _, h => h.elim
  | _ :: _, [], h => h.elim
theorem Inb.cons {v ls : List Int} {l : Int} (h : Inb v (l :: ls)) : ∃ a r, v = a :: r ∧ 0 ≤ a ∧ a < l ∧ Inb r ls := by
  cases v with
  | nil => exact h.elim
  | cons a r => exact ⟨a, r, rfl, h.1, h.2.1, h.2.2⟩
theorem Inb.nil {v : List Int} (h : Inb v []) : v = [] := by
  cases v with
  | nil => rfl
  | cons a r => exact h.elim
theorem draws_gv (cell : Int) (limits : List Int) (hl : ∀ l ∈ limits, 0 < l ∧ l < 18446744073709551616) (hn : limits.length ≤ 1000000) : Gv (F__law_draws cell limits) (fun v => Inb v limits) := by
  unfold F__law_draws
  refine Gv.bnd fun rest _ => Gv.bnd fun state _ => Gv.bnd fun free _ => Gv.bind (Gv.forS (P := fun i s => Inb s.1 (limits.take i)) ?_ fun i x s hx p => ?_) fun s p => .ok ?_
  · rw [List.take_zero]
    trivial
  · have hb0 := hl x (List.mem_of_getElem? hx)
    have hb : 0 < x ∧ x < 2 ^ 128 := ⟨hb0.1, by omega⟩
    have hlen := p.len
    have hi := get_len hx
    rw [List.length_take] at hlen
    have nx : ∀ y : Int, 0 ≤ y → y < x → Inb (s.1 ++ [y]) (limits.take (i + 1)) := fun y h0 h1 => by
      rw [take_succ_get hx]
      exact p.snoc h0 h1
    unfold F__law_draws_b1
    refine Gv.ite (fun _ => Gv.ite (fun _ => Gv.grd hb.1 (Gv.grd (by omega) (Gv.bnd fun y hy => Gv.grd ⟨hb.1, hb.2⟩ (Gv.bnd fun _ _ => .ok ?_)))) fun _ => Gv.bnd fun _ _ => Gv.bnd fun _ _ => Gv.grd hb.1 (Gv.grd (by omega) (Gv.bnd fun y hy => .ok ?_))) fun _ => Gv.bnd fun _ _ => Gv.bnd fun _ _ => Gv.grd hb.1 (Gv.grd (by omega) (Gv.bnd fun y hy => .ok ?_))
    · subst hy
      exact nx _ (Int.emod_nonneg _ (by omega)) (Int.emod_lt_of_pos _ hb.1)
    · subst hy
      exact nx _ (Int.emod_nonneg _ (by omega)) (Int.emod_lt_of_pos _ hb.1)
    · subst hy
      exact nx _ (Int.emod_nonneg _ (by omega)) (Int.emod_lt_of_pos _ hb.1)
  · rw [List.take_length] at p
    exact p
theorem ixg {xs : List Int} {k : Int} {n : Nat} (e : xs.length = n) (h : -(n : Int) ≤ k ∧ k < n) : -(xs.length : Int) ≤ k ∧ k < xs.length := by
  rw [e]
  exact h
theorem itD_lit {xs : List Int} {a k : Int} (n : Nat) (e : k = (n : Int)) (h : xs[n]? = some a) : itD xs k = a := by
  subst e
  have hl := get_len h
  unfold itD atI ixN
  rw [if_pos (by omega), if_pos (by omega)]
  show (xs[n]?).getD default = a
  rw [h]
  rfl
theorem itD_some {α : Type} [Inhabited α] {xs : List α} {k : Int} (h : -(xs.length : Int) ≤ k ∧ k < xs.length) : ∃ j : Nat, xs[j]? = some (itD xs k) := by
  obtain ⟨j, e, hj⟩ := ixN_some h
  refine ⟨j, ?_⟩
  unfold itD atI
  rw [e, List.getElem?_eq_getElem hj]
  show some xs[j] = some ((xs[j]?).getD default)
  rw [List.getElem?_eq_getElem hj] <;> rfl
theorem itD_mem {α : Type} [Inhabited α] {xs : List α} {k : Int} (h : -(xs.length : Int) ≤ k ∧ k < xs.length) : itD xs k ∈ xs := by
  obtain ⟨j, e⟩ := itD_some h
  exact List.mem_of_getElem? e
theorem itD_map {α β : Type} [Inhabited α] [Inhabited β] {xs : List α} {f : α → β} {k : Int} (h : -(xs.length : Int) ≤ k ∧ k < xs.length) : itD (xs.map f) k = f (itD xs k) := by
  obtain ⟨j, e, hj⟩ := ixN_some h
  unfold itD atI
  rw [List.length_map, e]
  show ((xs.map f)[j]?).getD default = f ((xs[j]?).getD default)
  rw [List.getElem?_map, List.getElem?_eq_getElem hj] <;> rfl
theorem itD_nat {α : Type} [Inhabited α] {xs : List α} {k : Int} {j : Nat} (e : k = (j : Int)) (h : j < xs.length) : itD xs k = xs[j] := by
  subst e
  unfold itD atI ixN
  rw [if_pos (by omega), if_pos (by omega)]
  show (xs[j]?).getD default = _
  rw [List.getElem?_eq_getElem h] <;> rfl
theorem setL_mem {α : Type} {xs : List α} {k : Int} {y z : α} (h : z ∈ setL xs k y) : z ∈ xs ∨ z = y := by
  unfold setL at h
  exact List.mem_or_eq_of_mem_set h
theorem setL_len {α : Type} {xs : List α} {k : Int} {y : α} : (setL xs k y).length = xs.length := by
  unfold setL
  rw [List.length_set]
def Shp (sh : List (Int × Int)) : Prop := sh ≠ [] ∧ sh.length ≤ 3 ∧ ∀ s ∈ sh, (1 ≤ s.1 ∧ s.1 ≤ 4) ∧ 16 ≤ s.2 ∧ s.2 ≤ 64
def zl (sh : List (Int × Int)) : List (List (List Int)) := sh.map fun s => (rng 0 (Int.toNat s.1)).map fun _ => repL [0] s.2
theorem shapes (f : St_Format) (size : Int) (hc : f.chroma = 0 ∨ f.chroma = 1 ∨ f.chroma = 2) (hs : size = 4 ∨ size = 8) : ∃ sh, F__law_shape f.chroma size = .ok sh ∧ F_level_shape f size = .ok sh ∧ Shp sh := by
  obtain ⟨w, h, d, c⟩ := f
  have k : ∀ sh : List (Int × Int), (sh ≠ [] ∧ sh.length ≤ 3 ∧ ∀ s ∈ sh, (1 ≤ s.1 ∧ s.1 ≤ 4) ∧ 16 ≤ s.2 ∧ s.2 ≤ 64) → Shp sh := fun _ h => h
  rcases hs with rfl | rfl
  · rcases hc with h | h | h
    · replace h : c = 0 := h
      subst h
      exact ⟨[(4, 16)], rfl, rfl, k _ (by decide)⟩
    · replace h : c = 1 := h
      subst h
      exact ⟨[(4, 16), (1, 16), (1, 16)], rfl, rfl, k _ (by decide)⟩
    · replace h : c = 2 := h
      subst h
      exact ⟨[(4, 16), (4, 16), (4, 16)], rfl, rfl, k _ (by decide)⟩
  · rcases hc with h | h | h
    · replace h : c = 0 := h
      subst h
      exact ⟨[(1, 64)], rfl, rfl, k _ (by decide)⟩
    · replace h : c = 1 := h
      subst h
      exact ⟨[(1, 64), (1, 16), (1, 16)], rfl, rfl, k _ (by decide)⟩
    · replace h : c = 2 := h
      subst h
      exact ⟨[(1, 64), (1, 64), (1, 64)], rfl, rfl, k _ (by decide)⟩
theorem no_shape (f : St_Format) (size : Int) (h4 : size ≠ 4) (h8 : size ≠ 8) : F_level_shape f size = .er 2 := by
  unfold F_level_shape
  rw [if_neg (by simp [h4, h8])]
theorem zl_eq {sh : List (Int × Int)} {g : Int × Int → Rx (List (List Int))} {g2 : Int × Int → Int → Rx (List Int)} (hs : Shp sh) (hg : ∀ s, g s = grd (-(2 ^ 62) ≤ s.1 ∧ s.1 < 2 ^ 62) (Rx.bind (mapA (rng 0 (Int.toNat s.1)) [] (fun x => noEr (g2 s x))) fun v => .ok v))
    (h2 : ∀ s x, g2 s x = grd (-(2 ^ 63) ≤ (s.2 : Int) ∧ (s.2 : Int) < 2 ^ 63 ∧ ([0]).length * Int.toNat s.2 ≤ 1000000) (.ok (repL [0] s.2))) :
    mapA sh [] (fun x => noEr (g x)) = .ok (zl sh) := by
  refine mapA_pure0 (f := fun x => noEr (g x)) (g := fun (s : Int × Int) => (rng 0 (Int.toNat s.1)).map fun _ => repL [(0 : Int)] s.2) (fun s hm => ?_) (by have := hs.2.1; omega)
  have hb := hs.2.2 s hm
  rw [hg, grd_pos ⟨by omega, by omega⟩, mapA_pure0 (g := fun _ => repL [0] s.2) (fun x _ => ?_) (by rw [rng_len]; omega)]
  · rfl
  · rw [h2, grd_pos ⟨by omega, by omega, by rw [List.length_singleton]; omega⟩]
    rfl
theorem zeros_ok {f : St_Format} {size : Int} {sh : List (Int × Int)} (h : F_level_shape f size = .ok sh) (hs : Shp sh) : F_zero_levels f size = .ok (zl sh) := by
  unfold F_zero_levels
  rw [h, bind_ok, zl_eq (g := F_zero_levels_c1) (g2 := fun s x => F_zero_levels_c2 s.2 x) hs (fun s => rfl) (fun s x => rfl), bind_ok]
theorem zl_at {sh : List (Int × Int)} {p : Int} (hp : -(sh.length : Int) ≤ p ∧ p < sh.length) : itD (zl sh) p = (rng 0 (Int.toNat (itD sh p).1)).map fun _ => repL [0] (itD sh p).2 := by
  unfold zl
  rw [itD_map hp]
theorem b1_ok (f : St_Format) (size : Int) (ds : List Int) (hc : f.chroma = 0 ∨ f.chroma = 1 ∨ f.chroma = 2) (hs : size = 4 ∨ size = 8) (hl : ds.length = 8) (h3 : itD ds 3 = f.chroma) : F_law_b1 ds f size = .ok (.go ()) := by
  obtain ⟨sh, e1, e2, hsh⟩ := shapes f size hc hs
  have ix : ∀ k : Int, 0 ≤ k → k < 8 → -(ds.length : Int) ≤ k ∧ k < (ds.length : Int) := fun k a b => by rw [hl]; omega
  have z1 : mapA sh [] (fun x => noEr (F_law_c2 x)) = .ok (zl sh) := zl_eq (g := F_law_c2) (g2 := fun s x => F_law_c3 s x) hsh (fun s => rfl) (fun s x => rfl)
  have z2 : mapA sh [] (fun x => noEr (F_law_c4 x)) = .ok (zl sh) := zl_eq (g := F_law_c4) (g2 := fun s x => F_law_c5 s x) hsh (fun s => rfl) (fun s x => rfl)
  have zz := zeros_ok e2 hsh
  have hn : 0 < sh.length := List.length_pos_iff.mpr hsh.1
  have zlen : (zl sh).length = sh.length := by unfold zl; rw [List.length_map]
  refine Gv.get ?_
  unfold F_law_b1
  rw [h3]
  refine Gv.grd (ix 3 (by decide) (by decide)) (Gv.bind_eq e1 (Gv.bind_eq e2 (Gv.pos rfl (Gv.bind_eq z1 (Gv.bind_eq zz (Gv.pos rfl (Gv.grd (ix 5 (by decide) (by decide)) (Gv.grd (by omega) (Gv.bnd fun p hp => ?_)))))))))
  have p0 : 0 ≤ p := by rw [hp]; exact Int.emod_nonneg _ (by omega)
  have p1 : p < sh.length := by rw [hp]; exact Int.emod_lt_of_pos _ (by omega)
  have hpx : -(sh.length : Int) ≤ p ∧ p < sh.length := ⟨by omega, p1⟩
  have hs := hsh.2.2 _ (itD_mem hpx)
  have za := zl_at hpx
  generalize itD sh p = s at hs za
  have q0 : 0 ≤ itD ds 6 % s.1 := Int.emod_nonneg _ (by omega)
  have q1 : itD ds 6 % s.1 < s.1 := Int.emod_lt_of_pos _ (by omega)
  have r0 : 0 ≤ itD ds 7 % s.2 := Int.emod_nonneg _ (by omega)
  have r1 : itD ds 7 % s.2 < s.2 := Int.emod_lt_of_pos _ (by omega)
  generalize itD ds 6 % s.1 = q at q0 q1
  generalize itD ds 7 % s.2 = r at r0 r1
  have g1 : -((zl sh).length : Int) ≤ p ∧ p < ((zl sh).length : Int) := by rw [zlen]; exact hpx
  have l2 : (itD (zl sh) p).length = Int.toNat s.1 := by rw [za, List.length_map, rng_len]
  have g2 : -((itD (zl sh) p).length : Int) ≤ q ∧ q < ((itD (zl sh) p).length : Int) := by rw [l2]; omega
  have l3 : (itD (itD (zl sh) p) q).length = Int.toNat s.2 := by
    have hm := itD_mem g2
    rw [za] at hm
    obtain ⟨_, _, e⟩ := List.mem_map.mp hm
    rw [za, ← e, repL_len, List.length_singleton]
    omega
  have g3 : -((itD (itD (zl sh) p) q).length : Int) ≤ r ∧ r < ((itD (itD (zl sh) p) q).length : Int) := by rw [l3]; omega
  refine Gv.grd (ix 6 (by decide) (by decide)) (Gv.grd hpx (Gv.grd (by omega) (Gv.grd (ix 7 (by decide) (by decide)) (Gv.grd hpx (Gv.grd (by omega) (Gv.grd g1 (Gv.grd g2 (Gv.grd g3 (Gv.bnd fun y1 h1 => Gv.bnd fun y2 h2 => Gv.bind_eq z2 (Gv.grd g1 (Gv.grd g2 (Gv.grd g3 (Gv.bnd fun w1 k1 => Gv.bnd fun w2 k2 => ?_)))))))))))))
  have ey : y1 = w1 := by rw [h1, k1]
  subst ey
  have ez : w2 = y2 := by rw [h2, k2]
  subst ez
  have ll : ∀ x ∈ w2, x.length ≤ 4 := fun x hx => by
    rw [h2] at hx
    rcases setL_mem hx with hx | hx
    · unfold zl at hx
      obtain ⟨t, ht, rfl⟩ := List.mem_map.mp hx
      have := hsh.2.2 t ht
      rw [List.length_map, rng_len]
      omega
    · rw [hx, h1, setL_len, l2]
      omega
  have g5 : -(w2.length : Int) ≤ -1 ∧ -1 < (w2.length : Int) := by rw [h2, setL_len, zlen]; omega
  have := ll _ (itD_mem g5)
  exact Gv.pos rfl (Gv.grd g5 (Gv.grd (by omega) (Gv.bnd fun _ _ => Gv.bind_eq zz (Gv.pos rfl (.ok rfl)))))
theorem refused_ok (f : St_Format) (size : Int) (h4 : size ≠ 4) (h8 : size ≠ 8) : F__law_refused f size = .ok true := by
  have e := no_shape f size h4 h8
  have e2 : F_zero_levels f size = .er 2 := by
    unfold F_zero_levels
    rw [e]
    rfl
  unfold F__law_refused F__law_refused_k1
  rw [e, tryR_er (by simp), e2]
  rfl
theorem law_true (xs : List Int) (h : xs.length ≤ 63) : F_law xs = .ok true := by
  refine Gv.get ?_
  unfold F_law
  refine Gv.bind (cell_gv xs 0 (by omega)) fun c0 _ => Gv.bind (draws_gv _ _ (fun l hl => ?_) (by show 8 ≤ 1000000; decide)) fun ds hd => ?_
  · simp only [List.mem_cons, List.not_mem_nil, or_false] at hl
    rcases hl with rfl | rfl | rfl | rfl | rfl | rfl | rfl | rfl <;> omega
  obtain ⟨d0, r, rfl, a0, a1, hr⟩ := hd.cons
  obtain ⟨d1, r, rfl, b0, b1, hr⟩ := hr.cons
  obtain ⟨d2, r, rfl, c0, c1, hr⟩ := hr.cons
  obtain ⟨d3, r, rfl, e0, e1, hr⟩ := hr.cons
  have i0 : itD (d0 :: d1 :: d2 :: d3 :: r) 0 = d0 := itD_lit 0 rfl rfl
  have i1 : itD (d0 :: d1 :: d2 :: d3 :: r) 1 = d1 := itD_lit 1 rfl rfl
  have i2 : itD (d0 :: d1 :: d2 :: d3 :: r) 2 = d2 := itD_lit 2 rfl rfl
  have i3 : itD (d0 :: d1 :: d2 :: d3 :: r) 3 = d3 := itD_lit 3 rfl rfl
  have hl : (d0 :: d1 :: d2 :: d3 :: r).length = 8 := hd.len
  generalize d0 :: d1 :: d2 :: d3 :: r = ds at i0 i1 i2 i3 hl
  have ix : ∀ k : Int, 0 ≤ k → k < 8 → -(ds.length : Int) ≤ k ∧ k < (ds.length : Int) := fun k a b => by rw [hl]; omega
  rw [i0, i1, i2, i3]
  refine Gv.grd (ix 0 (by decide) (by decide)) (Gv.grd (ix 1 (by decide) (by decide)) (Gv.grd (ix 2 (by decide) (by decide)) (Gv.grd (ix 3 (by decide) (by decide)) (Gv.bind (P := fun f => f.chroma = d3) ?_ fun f hf => ?_))))
  · unfold F_Format___init__
    rw [if_pos (by omega), if_pos (by omega), if_pos (by omega), if_pos (by omega), if_pos (by omega), if_pos (by omega), if_pos (by omega), if_pos (by omega)]
    exact .ok rfl
  refine Gv.bind_eq (a := .go ()) (forR_unit fun size hs => ?_) ?_
  · have hs : size = 4 ∨ size = 8 := by simpa using hs
    exact b1_ok f size ds (by omega) hs hl (by omega)
  rw [aft_go]
  unfold F_law_r1
  refine Gv.grd (ix 4 (by decide) (by decide)) (Gv.bnd fun size _ => Gv.ite (fun _ => .ok rfl) fun h4 => Gv.ite (fun _ => .ok rfl) fun h8 => Gv.bind_eq (refused_ok f size (fun h => h4 (decide_eq_true h)) (fun h => h8 (decide_eq_true h))) (.ok rfl))

end Vx
namespace Vx
open PySem PySem.Spec PyProof.Rows L2
def topS (i : Nat) : Stmt := PySem.Challenge.pw_thaumatrope_k26_levels_have_shapes.main.body.getD i (.Pass ⟨0, 0, 0, 0⟩)
abbrev s__law_draws : Stmt := topS 14
abbrev s_Format___init__ : Stmt := inClass (topS 11) 0
abbrev s__law_cell : Stmt := topS 13
abbrev s__law_shape : Stmt := topS 15
abbrev s_Format_planes : Stmt := inClass (topS 11) 2
abbrev s_level_shape : Stmt := topS 7
abbrev s_zero_levels : Stmt := topS 8
abbrev s__law_refused : Stmt := topS 16
abbrev s_law : Stmt := topS 17
structure Ads where
  c_Format : Addr
  x_CodecError : Addr
  x_BadFormat : Addr
  x_OutOfRange : Addr
  x_BadData : Addr
  z0 : Addr
def excA (AD : Ads) : Nat → Addr
  | 0 => AD.x_CodecError
  | 1 => AD.x_BadFormat
  | 2 => AD.x_OutOfRange
  | 3 => AD.x_BadData
  | _ => AD.z0
structure Txt (K : PySem.W.Frag) (mg : Str → Option Value) (AD : Ads) : Prop where
  b_abs : mg "abs" = none
  b_int : mg "int" = none
  b_len : mg "len" = none
  b_range : mg "range" = none
  b_isinstance : mg "isinstance" = none
  b_list : mg "list" = none
  cl_Format : Cls K AD.c_Format
  n_Format_width : NoAttr K AD.c_Format "width"
  n_Format_height : NoAttr K AD.c_Format "height"
  n_Format_depth : NoAttr K AD.c_Format "depth"
  n_Format_chroma : NoAttr K AD.c_Format "chroma"
  xg_BadFormat : mg "BadFormat" = some (.ref AD.x_BadFormat)
  xx_BadFormat : PySem.W.excIn K AD.x_BadFormat [.type "ValueError", .type "Exception", .type "BaseException", .type "object"] "ValueError.__new__" = true
  xk_BadFormat : PySem.W.keepIn K (.ref AD.x_BadFormat) = true
  xb_BadFormat : PySem.W.subIn K (.ref AD.x_BadFormat) (.type "BaseException") = some true
  xt_BadFormat : PySem.W.typeIn K (.ref AD.x_BadFormat) = some (.type "type")
  xg_OutOfRange : mg "OutOfRange" = some (.ref AD.x_OutOfRange)
  xx_OutOfRange : PySem.W.excIn K AD.x_OutOfRange [.type "ValueError", .type "Exception", .type "BaseException", .type "object"] "ValueError.__new__" = true
  xk_OutOfRange : PySem.W.keepIn K (.ref AD.x_OutOfRange) = true
  xb_OutOfRange : PySem.W.subIn K (.ref AD.x_OutOfRange) (.type "BaseException") = some true
  xt_OutOfRange : PySem.W.typeIn K (.ref AD.x_OutOfRange) = some (.type "type")
  xg_BadData : mg "BadData" = some (.ref AD.x_BadData)
  xx_BadData : PySem.W.excIn K AD.x_BadData [.type "ValueError", .type "Exception", .type "BaseException", .type "object"] "ValueError.__new__" = true
  xk_BadData : PySem.W.keepIn K (.ref AD.x_BadData) = true
  xb_BadData : PySem.W.subIn K (.ref AD.x_BadData) (.type "BaseException") = some true
  xt_BadData : PySem.W.typeIn K (.ref AD.x_BadData) = some (.type "type")
  xg_CodecError : mg "CodecError" = some (.ref AD.x_CodecError)
  xx_CodecError : PySem.W.excIn K AD.x_CodecError [.type "ValueError", .type "Exception", .type "BaseException", .type "object"] "ValueError.__new__" = true
  xk_CodecError : PySem.W.keepIn K (.ref AD.x_CodecError) = true
  xb_CodecError : PySem.W.subIn K (.ref AD.x_CodecError) (.type "BaseException") = some true
  xt_CodecError : PySem.W.typeIn K (.ref AD.x_CodecError) = some (.type "type")
  xm_OutOfRange_OutOfRange : PySem.W.exmOne K (.ref AD.x_OutOfRange) (.ref AD.x_OutOfRange) = some true
  xo_OutOfRange_CodecError : PySem.W.kitOne K (.ref AD.x_OutOfRange) (.ref AD.x_CodecError) = some true
  xn_OutOfRange_BadData : PySem.W.kitOne K (.ref AD.x_OutOfRange) (.ref AD.x_BadData) = some false
  xc_OutOfRange : ExcC K AD.x_OutOfRange
abbrev pat__law_draws_0 : Pat := (2, [], fun vs _ => vs)
abbrev pats__law_draws : List Pat := [pat__law_draws_0]
abbrev pat_Format___init___0 : Pat := (3, ["depth", "chroma"], fun vs zs => match vs, zs with | [a0, a1, a2], [b0, b1] => [a0, a1, a2, b0, b1] | _, _ => [])
abbrev pats_Format___init__ : List Pat := [pat_Format___init___0]
abbrev pat__law_cell_0 : Pat := (2, [], fun vs _ => vs)
abbrev pats__law_cell : List Pat := [pat__law_cell_0]
abbrev pat__law_shape_0 : Pat := (2, [], fun vs _ => vs)
abbrev pats__law_shape : List Pat := [pat__law_shape_0]
abbrev pats_Format_planes : List Pat := []
abbrev pat_level_shape_0 : Pat := (2, [], fun vs _ => vs)
abbrev pats_level_shape : List Pat := [pat_level_shape_0]
abbrev pat_zero_levels_0 : Pat := (2, [], fun vs _ => vs)
abbrev pats_zero_levels : List Pat := [pat_zero_levels_0]
abbrev pat__law_refused_0 : Pat := (2, [], fun vs _ => vs)
abbrev pats__law_refused : List Pat := [pat__law_refused_0]
abbrev pats_law : List Pat := []
def sp__law_draws (K : PySem.W.Frag) (AD : Ads) : Sp := fun vs H Q E => ∃ (G : Hp) (cell' : Int) (a_limits : Addr) (limits' : List Int), vs = [.int cell', .ref a_limits] ∧ Same G H ∧ (hideL [] H) a_limits = some (.lst ((limits' : List Int).map V.int)) ∧ cW (F__law_draws cell' limits') (fun v => ∀ p H', H p = none → Same H H' → H' p = some (.lst (v.map V.int)) → Q (.ref p) H') (fun e => ∀ H', Same H H' → E (.ref (excA AD e)) none H')
def sp_Format___init__ (K : PySem.W.Frag) (AD : Ads) : Sp := fun vs H Q E => ∃ (G : Hp) (p_self dx_self : Addr) (width' : Int) (height' : Int) (depth' : Int) (chroma' : Int), vs = [.ref p_self, .int width', .int height', .int depth', .int chroma'] ∧ Same G H ∧ (∀ a ∈ [p_self], G a = none) ∧ H p_self = some (.ins AD.c_Format dx_self []) ∧ cW (F_Format___init__ width' height' depth' chroma') (fun v => ∀ (H' : Hp), SameX p_self H H' → H' p_self = some (.ins AD.c_Format dx_self [("width", V.int v.width), ("height", V.int v.height), ("depth", V.int v.depth), ("chroma", V.int v.chroma)]) → Q .non H') (fun e => ∀ H', Same H H' → E (.ref (excA AD e)) none H')
def sp__law_cell (K : PySem.W.Frag) (AD : Ads) : Sp := fun vs H Q E => ∃ (G : Hp) (a_script : Addr) (script' : List Int) (k' : Int), vs = [.ref a_script, .int k'] ∧ Same G H ∧ SqL K H a_script ((script' : List Int).map V.int) ∧ cW (F__law_cell script' k') (fun v => Q (.int v) H) (fun e => E (.ref (excA AD e)) none H)
def sp__law_shape (K : PySem.W.Frag) (AD : Ads) : Sp := fun vs H Q E => ∃ (G : Hp) (chroma' : Int) (size' : Int), vs = [.int chroma', .int size'] ∧ Same G H ∧ cW (F__law_shape chroma' size') (fun v => ∀ u H' G', Same H H' → Same G G' → Same G' H' → (∀ b, H b ≠ none → G b = none → G' b = none) → Rp G' u ((encL (encT2 PyData.int PyData.int)) v) → Q u H') (fun e => ∀ H', Same H H' → E (.ref (excA AD e)) none H')
def sp_Format_planes (K : PySem.W.Frag) (AD : Ads) : Sp := fun vs H Q E => ∃ (G : Hp) (p_self dx_self : Addr) (self' : St_Format), vs = [.ref p_self] ∧ Same G H ∧ (hideL [] H) p_self = some (.ins AD.c_Format dx_self [("width", V.int self'.width), ("height", V.int self'.height), ("depth", V.int self'.depth), ("chroma", V.int self'.chroma)]) ∧ cW (F_Format_planes self') (fun v => ∀ H', Same H H' → Q (.int v) H') (fun e => ∀ H', Same H H' → E (.ref (excA AD e)) none H')
def sp_level_shape (K : PySem.W.Frag) (AD : Ads) : Sp := fun vs H Q E => ∃ (G : Hp) (p_fmt dx_fmt : Addr) (fmt' : St_Format) (size' : Int), vs = [.ref p_fmt, .int size'] ∧ Same G H ∧ (hideL [] H) p_fmt = some (.ins AD.c_Format dx_fmt [("width", V.int fmt'.width), ("height", V.int fmt'.height), ("depth", V.int fmt'.depth), ("chroma", V.int fmt'.chroma)]) ∧ cW (F_level_shape fmt' size') (fun v => ∀ u H' G', Same H H' → Same G G' → Same G' H' → (∀ b, H b ≠ none → G b = none → G' b = none) → Rp G' u ((encL (encT2 PyData.int PyData.int)) v) → Q u H') (fun e => ∀ H', Same H H' → E (.ref (excA AD e)) none H')
def sp_zero_levels (K : PySem.W.Frag) (AD : Ads) : Sp := fun vs H Q E => ∃ (G : Hp) (p_fmt dx_fmt : Addr) (fmt' : St_Format) (size' : Int), vs = [.ref p_fmt, .int size'] ∧ Same G H ∧ (hideL [] H) p_fmt = some (.ins AD.c_Format dx_fmt [("width", V.int fmt'.width), ("height", V.int fmt'.height), ("depth", V.int fmt'.depth), ("chroma", V.int fmt'.chroma)]) ∧ cW (F_zero_levels fmt' size') (fun v => ∀ (H' : Hp) (a : Addr) (vs : List V) (L : List Addr) (G' : Hp), H a = none → (∀ b ∈ L, H b = none) → (∀ b ∈ L, b ≠ a) → Same H H' → Same G G' → Same G' H' → (∀ b, H b ≠ none → G b = none → G' b = none) → G' a = none → (∀ b ∈ L, G' b = none) → H' a = some (.lst vs) → OwAll G' H' L vs ((v : (List (List (List Int)))).map (oL (oL oI))) → Q (.ref a) H') (fun e => ∀ H', Same H H' → E (.ref (excA AD e)) none H')
def sp__law_refused (K : PySem.W.Frag) (AD : Ads) : Sp := fun vs H Q E => ∃ (G : Hp) (p_fmt dx_fmt : Addr) (fmt' : St_Format) (size' : Int), vs = [.ref p_fmt, .int size'] ∧ Same G H ∧ (hideL [] H) p_fmt = some (.ins AD.c_Format dx_fmt [("width", V.int fmt'.width), ("height", V.int fmt'.height), ("depth", V.int fmt'.depth), ("chroma", V.int fmt'.chroma)]) ∧ cW (F__law_refused fmt' size') (fun v => ∀ H', Same H H' → Q (.bl v) H') (fun e => ∀ H', Same H H' → E (.ref (excA AD e)) none H')
def sp_law (K : PySem.W.Frag) (AD : Ads) : Sp := fun vs H Q E => ∃ (a_script : Addr) (script : List Int), vs = [.ref a_script] ∧ SqL K H a_script (script.map V.int) ∧ cW (F_law script) (fun v => v = true) (fun _ => False) ∧ ∀ H', Q (.bl true) H'
section
variable {P : Program} {w : World} {K : PySem.W.Frag} {mg : Str → Option Value} {base : Heap} {AD : Ads}
abbrev N__law_draws : List Str := ["cell", "limits", "found", "rest", "state", "free", "limit"]
theorem sc__law_draws : FnScope N__law_draws ["cell", "limits"] (defScope s__law_draws) := ⟨rfl, rfl, rfl, by decide +kernel, rfl, by decide +kernel, by decide +kernel⟩
theorem ok__law_draws (D : DefX K mg "_law_draws" s__law_draws ["cell", "limits"] pats__law_draws) (T : Txt K mg AD)  : CalX P w K mg base 1 "_law_draws" (sp__law_draws K AD) pats__law_draws := by
  refine D.ok sc__law_draws (fun vs H Q E h => ?_) (fun f cdv A_ outer s H vs Q E hr h => ?_)
  · obtain ⟨G, cell', a_limits, limits', rfl, _⟩ := h
    rfl
  · obtain ⟨G, cell', a_limits, limits', rfl, sG, q_limits, hw⟩ := h
    refine ⟨_, (pss_cons (ps_set (i := 2) sc__law_draws.nd rfl (Or.inl rfl) (pe_lst pa_nil))
      (pss_cons (ps_set (i := 3) sc__law_draws.nd rfl (Or.inl rfl) (pe_callB call_abs (by rfl) T.b_abs (by decide +kernel) (pa_cons (pe_callTy call_int1 (by rfl) T.b_int (by decide +kernel) (pa_cons (pv 0) pa_nil)) pa_nil)))
      (pss_cons (ps_set (i := 4) sc__law_draws.nd rfl (Or.inl rfl) (pe_op op_mod (pe_callTy call_int1 (by rfl) T.b_int (by decide +kernel) (pa_cons (pv 3) pa_nil)) pe_int))
      (pss_cons (ps_set (i := 5) sc__law_draws.nd rfl (Or.inl rfl) (pe_or (pe_cmp (pc_lt (pv 0) pe_int)) (pe_one (pe_cmp (pc_ge (pv 0) (pe_op op_pow pe_int pe_int))))))
      (pss_cons (ps_for (passes_of rfl) rfl (pi_listK (K := K) (pv 1)) (pg_name (i := 6) sc__law_draws.nd rfl (Or.inl rfl)) (pss_one (ps_if (PW.pt (pw_and (pt_val (pv 5)) (pw_and1 (pt_cmp (pc_gt (pv 3) pe_int))))) (pss_cons (ps_expr (pe_bm PySem.F.plainAttrs_list PySem.F.slot_list_append PySem.F.type_list_append mt_append (pv 2) (pa_cons (pe_op op_mod (pe_callTy call_int1 (by rfl) T.b_int (by decide +kernel) (pa_cons (pv 3) pa_nil)) (pv 6)) pa_nil)))
      (pss_one (ps_set (i := 3) sc__law_draws.nd rfl (Or.inl rfl) (pe_op op_fdivW (pv 3) (pv 6))))) (pss_cons (ps_set (i := 4) sc__law_draws.nd rfl (Or.inl rfl) (pe_op op_mod (pe_callTy call_int1 (by rfl) T.b_int (by decide +kernel) (pa_cons (pe_op op_add (pe_op op_mul (pv 4) pe_int) pe_int) pa_nil)) pe_int))
      (pss_cons (ps_set (i := 4) sc__law_draws.nd rfl (Or.inl rfl) (pe_op op_mod (pe_callTy call_int1 (by rfl) T.b_int (by decide +kernel) (pa_cons (pe_op op_add (pe_op op_mul (pv 4) pe_int) pe_int) pa_nil)) pe_int))
      (pss_one (ps_expr (pe_bm PySem.F.plainAttrs_list PySem.F.slot_list_append PySem.F.type_list_append mt_append (pv 2) (pa_cons (pe_op op_mod (pe_callTy call_int1 (by rfl) T.b_int (by decide +kernel) (pa_cons (pe_op op_fdivW (pv 4) pe_int) pa_nil)) (pv 6)) pa_nil)))))))))
      (pss_one (ps_ret (pv 2)))))))), ?_⟩
    obtain ⟨KK, EE, hK0, hE, hw⟩ := cW_gen hw
    have S0 := Sep.startG sG
    unfold F__law_draws at hw
    refine ⟨(by show 0 ≤ sizeLine; decide), fun p1 n2 => ?_⟩
    generalize g3 : upd H p1 _ = H4
    obtain ⟨e5, h6⟩ := gen_new n2 g3
    have h7 : H4 p1 = some (.lst ((([] : (List Int)) : (List Int)).map V.int)) := h6
    have fr8 := S0.free n2
    have S9 := S0.new n2 e5 h7 fr8
    refine ⟨_, rfl, .inl ⟨_, rfl, ?_⟩⟩
    refine ⟨_, rfl, ?_⟩
    have hw := cW_bnd hw
    refine ⟨_, rfl, .inl ⟨_, rfl, ?_⟩⟩
    refine ⟨_, _, rfl, rfl, (show (0 : Int) < 2147483647 by decide), ?_⟩
    have hw := cW_bnd hw
    refine vv_or (ta := (tLt (tVar 0) (tC (V.int 0)))) (tb := (tGe (tVar 0) (tOp (rI CPow fun i j => V.int (i ^ j.toNat)) (tC (V.int 10)) (tC (V.int 18))))) (a := decide (cell' < 0)) (b := decide (((10 : Int) ^ Int.toNat 18) ≤ cell')) ?ha12 ?hb13 _ ?_
    case ha12 => exact (vv_cmp (val_var rfl) val_c (fun Q q => ⟨_, _, rfl, rfl, q⟩))
    case hb13 => exact (vv_cmp (val_var rfl) (val_op val_c val_c (fun Q q => ⟨_, _, rfl, rfl, ⟨by decide, by decide, by decide⟩, q⟩)) (fun Q q => ⟨_, _, rfl, rfl, q⟩))
    have hw := cW_bnd hw
    obtain ⟨K16, hK17, hw⟩ := cW_push hw
    refine ⟨_, rfl, _, rfl, ⟨_, (SqL.of (S9.bM _ _ q_limits))⟩, for_list (K := K) (a := a_limits) (xs := (limits' : List Int).map V.int) (fun i σ H' => ∃ (found_18 : (List Int)) (rest_19 : Int) (state_20 : Int) (u21 : Option V) (G' : Hp), σ = [some (V.int (cell')), some (V.ref a_limits), some (V.ref p1), some (V.int rest_19), some (V.int state_20), some (V.bl ((decide (cell' < 0) || decide (((10 : Int) ^ Int.toNat 18) ≤ cell')))), u21] ∧ Same G G' ∧ Sep [] H G G' H' [p1] ∧ H' p1 = some (.lst ((found_18 : (List Int)).map V.int)) ∧ cW (forS (List.drop i (limits')) (found_18, rest_19, state_20) (fun s x => F__law_draws_b1 ((decide (cell' < 0) || decide (((10 : Int) ^ Int.toNat 18) ≤ cell'))) (s.1) (s.2.1) (s.2.2) x)) K16 EE) ?_ ?_ ?_ ?_⟩
    · exact ⟨(([] : (List Int))), ((if cell' < 0 then -cell' else cell')), (((if cell' < 0 then -cell' else cell') % 2147483647)), _, _, rfl, (Same.refl _), S9, h7, hw⟩
    · intro i σ H22 _ hw
      obtain ⟨found_18, rest_19, state_20, u21, G25, rfl, eG26, S23, h24, hw⟩ := hw
      exact (SqL.of (S23.bM _ _ q_limits))
    · intro i x σ H27 hj hw
      obtain ⟨found_18, rest_19, state_20, u21, G30, rfl, eG31, S28, h29, hw⟩ := hw
      obtain ⟨x32, hx, rfl⟩ := map_get hj
      have hw := cW_forS hx hw
      have hw : cW (F__law_draws_b1 ((decide (cell' < 0) || decide (((10 : Int) ^ Int.toNat 18) ≤ cell'))) (found_18) (rest_19) (state_20) (x32)) _ EE := hw
      unfold F__law_draws_b1 at hw
      obtain ⟨K36, hK37, hw⟩ := cW_name hw
      refine ⟨_, rfl, _, rfl, ?_⟩
      refine iteB (fun c39 => ?_) (fun c39 => ?_)
      · have hw := cW_pos c39 hw
        refine ⟨_, rfl, _, _, rfl, rfl, _, rfl, ?_⟩
        refine iteD (fun c40 => ?_) (fun c40 => ?_)
        · have hw := cW_pos c40 hw
          refine ⟨_, rfl, (.inl ⟨rfl, _, SqL.of h29⟩), _, rfl, .inl ⟨_, rfl, ?_⟩⟩
          obtain ⟨g41, hw⟩ := cW_grd hw
          obtain ⟨g42, hw⟩ := cW_grd hw
          refine ⟨_, rfl, _, _, rfl, rfl, g41, _, _, _, rfl, rfl, h29, (app_lenM g42), ?_⟩
          generalize g43 : upd H27 p1 _ = H44
          obtain ⟨x45, h46⟩ := gen_mut g43
          have h47 : H44 p1 = some (.lst (((found_18) ++ [(rest_19 % x32)] : (List Int)).map V.int)) := snoc_map h46
          have S48 := S28.mut1 x45 (.head _) h47
          have hw := cW_bnd hw
          obtain ⟨g50, hw⟩ := cW_grd hw
          refine ⟨_, rfl, _, rfl, _, _, rfl, rfl, (divW_small g50.1 g50.2), ?_⟩
          have hw := cW_bnd hw
          have hw := cW_ok hw
          have hw := hK37 _ hw
          exact ⟨((found_18) ++ [(rest_19 % x32)]), ((rest_19 / x32)), (state_20), _, _, rfl, eG31, S48, h47, hw⟩
        · have hw := cW_neg c40 hw
          refine ⟨_, rfl, _, _, rfl, rfl, (.inr ⟨by decide, by decide⟩), _, _, rfl, rfl, .inl ⟨_, rfl, ?_⟩⟩
          refine ⟨_, _, rfl, rfl, (show (0 : Int) < 2147483647 by decide), ?_⟩
          have hw := cW_bnd hw
          refine ⟨_, rfl, _, _, rfl, rfl, (.inr ⟨by decide, by decide⟩), _, _, rfl, rfl, .inl ⟨_, rfl, ?_⟩⟩
          refine ⟨_, _, rfl, rfl, (show (0 : Int) < 2147483647 by decide), ?_⟩
          have hw := cW_bnd hw
          refine ⟨_, rfl, (.inl ⟨rfl, _, SqL.of h29⟩), _, rfl, _, _, rfl, rfl, (divW_lit (by decide) (by decide)), .inl ⟨_, rfl, ?_⟩⟩
          obtain ⟨g54, hw⟩ := cW_grd hw
          obtain ⟨g55, hw⟩ := cW_grd hw
          refine ⟨_, rfl, _, _, rfl, rfl, g54, _, _, _, rfl, rfl, h29, (app_lenM g55), ?_⟩
          generalize g56 : upd H27 p1 _ = H57
          obtain ⟨x58, h59⟩ := gen_mut g56
          have h60 : H57 p1 = some (.lst (((found_18) ++ [((((((((state_20 * 48271) + 11) % 2147483647) * 69621) + 7) % 2147483647) / 13) % x32)] : (List Int)).map V.int)) := snoc_map h59
          have S61 := S28.mut1 x58 (.head _) h60
          have hw := cW_bnd hw
          have hw := cW_ok hw
          have hw := hK37 _ hw
          exact ⟨((found_18) ++ [((((((((state_20 * 48271) + 11) % 2147483647) * 69621) + 7) % 2147483647) / 13) % x32)]), (rest_19), (((((((state_20 * 48271) + 11) % 2147483647) * 69621) + 7) % 2147483647)), _, _, rfl, eG31, S61, h60, hw⟩
      · have hw := cW_negB c39 hw
        refine iteF ?_
        refine ⟨_, rfl, _, _, rfl, rfl, (.inr ⟨by decide, by decide⟩), _, _, rfl, rfl, .inl ⟨_, rfl, ?_⟩⟩
        refine ⟨_, _, rfl, rfl, (show (0 : Int) < 2147483647 by decide), ?_⟩
        have hw := cW_bnd hw
        refine ⟨_, rfl, _, _, rfl, rfl, (.inr ⟨by decide, by decide⟩), _, _, rfl, rfl, .inl ⟨_, rfl, ?_⟩⟩
        refine ⟨_, _, rfl, rfl, (show (0 : Int) < 2147483647 by decide), ?_⟩
        have hw := cW_bnd hw
        refine ⟨_, rfl, (.inl ⟨rfl, _, SqL.of h29⟩), _, rfl, _, _, rfl, rfl, (divW_lit (by decide) (by decide)), .inl ⟨_, rfl, ?_⟩⟩
        obtain ⟨g65, hw⟩ := cW_grd hw
        obtain ⟨g66, hw⟩ := cW_grd hw
        refine ⟨_, rfl, _, _, rfl, rfl, g65, _, _, _, rfl, rfl, h29, (app_lenM g66), ?_⟩
        generalize g67 : upd H27 p1 _ = H68
        obtain ⟨x69, h70⟩ := gen_mut g67
        have h71 : H68 p1 = some (.lst (((found_18) ++ [((((((((state_20 * 48271) + 11) % 2147483647) * 69621) + 7) % 2147483647) / 13) % x32)] : (List Int)).map V.int)) := snoc_map h70
        have S72 := S28.mut1 x69 (.head _) h71
        have hw := cW_bnd hw
        have hw := cW_ok hw
        have hw := hK37 _ hw
        exact ⟨((found_18) ++ [((((((((state_20 * 48271) + 11) % 2147483647) * 69621) + 7) % 2147483647) / 13) % x32)]), (rest_19), (((((((state_20 * 48271) + 11) % 2147483647) * 69621) + 7) % 2147483647)), _, _, rfl, eG31, S72, h71, hw⟩
    · intro σ H74 hw
      obtain ⟨found_18, rest_19, state_20, u21, G77, rfl, eG78, S75, h76, hw⟩ := hw
      have hw := hK17 _ (cW_forS0 (by rw [List.length_map]) hw)
      have hw : cW (F__law_draws_r1  (found_18) (rest_19) (state_20)) _ EE := hw
      unfold F__law_draws_r1 at hw
      refine ⟨_, rfl, ?_⟩
      have hw := cW_ok hw
      exact hK0 _ hw _ _ fr8 S75.b0 h76

abbrev N_Format___init__ : List Str := ["self", "width", "height", "depth", "chroma"]
theorem sc_Format___init__ : FnScope N_Format___init__ ["self", "width", "height", "depth", "chroma"] (defScope s_Format___init__) := ⟨rfl, rfl, rfl, by decide +kernel, rfl, by decide +kernel, by decide +kernel⟩
theorem ok_Format___init__ (D : InitX K mg AD.c_Format "Format" "Format.__init__" s_Format___init__ ["self", "width", "height", "depth", "chroma"] pats_Format___init__) (T : Txt K mg AD)  : MakX P w K mg base 1 "Format" AD.c_Format (sp_Format___init__ K AD) pats_Format___init__ := by
  refine D.ok sc_Format___init__ (fun vs H Q E h => ?_) (fun f cdv A_ outer s H vs Q E hr h => ?_)
  · obtain ⟨G, p_self, dx_self, width', height', depth', chroma', rfl, _⟩ := h
    rfl
  · obtain ⟨G, p_self, dx_self, width', height', depth', chroma', rfl, sG, gM, h_self, hw⟩ := h
    refine ⟨_, (pss_cons (ps_if (pt_not (PW.pt (pw_and (pt_chain op_le op_le pe_int (pv 1) pe_int) (pw_and1 (pt_chain op_le op_le pe_int (pv 2) pe_int))))) (pss_one (ps_raise rfl (takes_of rfl rfl rfl rfl) (pmk_own PySem.F.excBase_ValueError T.xx_BadFormat T.xg_BadFormat T.xk_BadFormat (raises_own T.xb_BadFormat T.xt_BadFormat) rfl))) pss_nil)
      (pss_cons (ps_if (pt_not (pt_chain op_le op_le pe_int (pv 3) pe_int)) (pss_one (ps_raise rfl (takes_of rfl rfl rfl rfl) (pmk_own PySem.F.excBase_ValueError T.xx_BadFormat T.xg_BadFormat T.xk_BadFormat (raises_own T.xb_BadFormat T.xt_BadFormat) rfl))) pss_nil)
      (pss_cons (ps_if (pt_not (pt_chain op_le op_le pe_int (pv 4) pe_int)) (pss_one (ps_raise rfl (takes_of rfl rfl rfl rfl) (pmk_own PySem.F.excBase_ValueError T.xx_BadFormat T.xg_BadFormat T.xk_BadFormat (raises_own T.xb_BadFormat T.xt_BadFormat) rfl))) pss_nil)
      (pss_cons (ps_fld (pv 0) (pv 1) rfl)
      (pss_cons (ps_fld (pv 0) (pv 2) rfl)
      (pss_cons (ps_fld (pv 0) (pv 3) rfl)
      (pss_one (ps_fld (pv 0) (pv 4) rfl)))))))), ?_⟩
    obtain ⟨KK, EE, hK0, hE, hw⟩ := cW_gen hw
    have S0 := Sep.startM (M := [p_self]) sG (all_cons (some_ne h_self) all_nil) gM
    unfold F_Format___init__ at hw
    refine ⟨_, rfl, _, _, rfl, rfl, _, rfl, ?_⟩
    refine iteD (fun c82 => ?_) (fun c82 => ?_)
    · have hw := cW_pos c82 hw
      refine ⟨_, _, rfl, rfl, _, rfl, ?_⟩
      refine iteD (fun c83 => ?_) (fun c83 => ?_)
      · have hw := cW_pos c83 hw
        refine ⟨_, rfl, _, _, rfl, rfl, _, rfl, ?_⟩
        refine iteD (fun c84 => ?_) (fun c84 => ?_)
        · have hw := cW_pos c84 hw
          refine ⟨_, _, rfl, rfl, _, rfl, ?_⟩
          refine iteN (fun c85 => ?_) (fun c85 => ?_)
          · have hw := cW_neg c85 hw
            exact hE 1 (cW_er hw) _ (Same.refl _)
          · have hw := cW_pos c85 hw
            refine ⟨_, rfl, _, _, rfl, rfl, _, rfl, ?_⟩
            refine iteD (fun c86 => ?_) (fun c86 => ?_)
            · have hw := cW_pos c86 hw
              refine ⟨_, _, rfl, rfl, _, rfl, ?_⟩
              refine iteN (fun c87 => ?_) (fun c87 => ?_)
              · have hw := cW_neg c87 hw
                exact hE 1 (cW_er hw) _ (Same.refl _)
              · have hw := cW_pos c87 hw
                refine ⟨_, rfl, _, _, rfl, rfl, _, rfl, ?_⟩
                refine iteD (fun c88 => ?_) (fun c88 => ?_)
                · have hw := cW_pos c88 hw
                  refine ⟨_, _, rfl, rfl, _, rfl, ?_⟩
                  refine iteN (fun c89 => ?_) (fun c89 => ?_)
                  · have hw := cW_neg c89 hw
                    exact hE 1 (cW_er hw) _ (Same.refl _)
                  · have hw := cW_pos c89 hw
                    refine ⟨_, rfl, _, rfl, _, _, _, _, rfl, h_self, T.cl_Format, T.n_Format_width, (by show 0 < 1000; decide), ?_⟩
                    generalize g90 : upd H p_self _ = H91
                    obtain ⟨x92, h93⟩ := gen_mut g90
                    have h94 : H91 p_self = some (.ins AD.c_Format dx_self [("width", V.int (width'))]) := h93
                    have S95 := S0.mut1 x92 (.head _) h94
                    refine ⟨_, rfl, _, rfl, _, _, _, _, rfl, h94, T.cl_Format, T.n_Format_height, (by show 1 < 1000; decide), ?_⟩
                    generalize g96 : upd H91 p_self _ = H97
                    obtain ⟨x98, h99⟩ := gen_mut g96
                    have h100 : H97 p_self = some (.ins AD.c_Format dx_self [("width", V.int (width')), ("height", V.int (height'))]) := h99
                    have S101 := S95.mut1 x98 (.head _) h100
                    refine ⟨_, rfl, _, rfl, _, _, _, _, rfl, h100, T.cl_Format, T.n_Format_depth, (by show 2 < 1000; decide), ?_⟩
                    generalize g102 : upd H97 p_self _ = H103
                    obtain ⟨x104, h105⟩ := gen_mut g102
                    have h106 : H103 p_self = some (.ins AD.c_Format dx_self [("width", V.int (width')), ("height", V.int (height')), ("depth", V.int (depth'))]) := h105
                    have S107 := S101.mut1 x104 (.head _) h106
                    refine ⟨_, rfl, _, rfl, _, _, _, _, rfl, h106, T.cl_Format, T.n_Format_chroma, (by show 3 < 1000; decide), ?_⟩
                    generalize g108 : upd H103 p_self _ = H109
                    obtain ⟨x110, h111⟩ := gen_mut g108
                    have h112 : H109 p_self = some (.ins AD.c_Format dx_self [("width", V.int (width')), ("height", V.int (height')), ("depth", V.int (depth')), ("chroma", V.int (chroma'))]) := h111
                    have S113 := S107.mut1 x110 (.head _) h112
                    have hw := cW_ok hw
                    exact hK0 _ hw _ (sameX_of S113.base) h112
                · have hw := cW_neg c88 hw
                  refine ⟨_, rfl, ?_⟩
                  refine iteT ?_
                  exact hE 1 (cW_er hw) _ (Same.refl _)
            · have hw := cW_neg c86 hw
              refine ⟨_, rfl, ?_⟩
              refine iteT ?_
              exact hE 1 (cW_er hw) _ (Same.refl _)
        · have hw := cW_neg c84 hw
          refine ⟨_, rfl, ?_⟩
          refine iteT ?_
          exact hE 1 (cW_er hw) _ (Same.refl _)
      · have hw := cW_neg c83 hw
        refine iteT ?_
        exact hE 1 (cW_er hw) _ (Same.refl _)
    · have hw := cW_neg c82 hw
      refine ⟨_, rfl, ?_⟩
      refine iteF ?_
      refine iteT ?_
      exact hE 1 (cW_er hw) _ (Same.refl _)

abbrev N__law_cell : List Str := ["script", "k"]
theorem sc__law_cell : FnScope N__law_cell ["script", "k"] (defScope s__law_cell) := ⟨rfl, rfl, rfl, by decide +kernel, rfl, by decide +kernel, by decide +kernel⟩
theorem ok__law_cell (D : DefX K mg "_law_cell" s__law_cell ["script", "k"] pats__law_cell) (T : Txt K mg AD)  : CalX P w K mg base 1 "_law_cell" (sp__law_cell K AD) pats__law_cell := by
  refine D.ok sc__law_cell (fun vs H Q E h => ?_) (fun f cdv A_ outer s H vs Q E hr h => ?_)
  · obtain ⟨G, a_script, script', k', rfl, _⟩ := h
    rfl
  · obtain ⟨G, a_script, script', k', rfl, sG, q_script, hw⟩ := h
    refine ⟨_, (pss_cons (ps_if (pt_cmp (pc_lt (pv 1) (pe_callB (call_lenLiK (K := K)) (by rfl) T.b_len (by decide +kernel) (pa_cons (pv 0) pa_nil)))) (pss_one (ps_ret (pe_callTy call_int1 (by rfl) T.b_int (by decide +kernel) (pa_cons (pe_ix (ix_listK (K := K)) (pv 0) (pv 1) (fun _ _ => rfl)) pa_nil)))) pss_nil)
      (pss_one (ps_ret pe_int))), ?_⟩
    obtain ⟨KK, EE, hK0, hE, hw⟩ := cW_gen hw
    have S0 := Sep.startG sG
    unfold F__law_cell at hw
    refine ⟨_, rfl, _, rfl, _, _, rfl, (S0.b0.seq q_script), _, _, rfl, rfl, _, rfl, ?_⟩
    refine iteD (fun c114 => ?_) (fun c114 => ?_)
    · have hw := cW_pos c114 hw
      obtain ⟨g115, hw⟩ := cW_grd hw
      refine ⟨_, rfl, _, rfl, _, _, _, _, rfl, rfl, (S0.b0.seq q_script), (atI_map g115), .inl ⟨_, rfl, ?_⟩⟩
      have hw := cW_ok hw
      exact hK0 _ hw
    · have hw := cW_neg c114 hw
      have hw := cW_ok hw
      exact hK0 _ hw

abbrev N__law_shape : List Str := ["chroma", "size", "luma"]
theorem sc__law_shape : FnScope N__law_shape ["chroma", "size"] (defScope s__law_shape) := ⟨rfl, rfl, rfl, by decide +kernel, rfl, by decide +kernel, by decide +kernel⟩
theorem ok__law_shape (D : DefX K mg "_law_shape" s__law_shape ["chroma", "size"] pats__law_shape) (T : Txt K mg AD)  : CalX P w K mg base 1 "_law_shape" (sp__law_shape K AD) pats__law_shape := by
  refine D.ok sc__law_shape (fun vs H Q E h => ?_) (fun f cdv A_ outer s H vs Q E hr h => ?_)
  · obtain ⟨G, chroma', size', rfl, _⟩ := h
    rfl
  · obtain ⟨G, chroma', size', rfl, sG, hw⟩ := h
    refine ⟨_, (pss_cons (ps_set (i := 2) sc__law_shape.nd rfl (Or.inl rfl) (pe_tup (pa_cons pe_int (pa_cons pe_int pa_nil))))
      (C8.pss_cut (ps_if (pt_cmp (pc_eqI (pv 1) pe_int)) (pss_one (ps_set (i := 2) sc__law_shape.nd rfl (Or.inl rfl) (pe_tup (pa_cons pe_int (pa_cons pe_int pa_nil))))) pss_nil)
      (pss_one (ps_ret (pe_ix (ix_listK (K := K)) (pe_lst (pa_cons (pe_lst (pa_cons (pv 2) pa_nil)) (pa_cons (pe_lst (pa_cons (pv 2) (pa_cons (pe_tup (pa_cons pe_int (pa_cons pe_int pa_nil))) (pa_cons (pe_tup (pa_cons pe_int (pa_cons pe_int pa_nil))) pa_nil)))) (pa_cons (pe_lst (pa_cons (pv 2) (pa_cons (pv 2) (pa_cons (pv 2) pa_nil)))) pa_nil)))) (pv 0) (fun _ _ => rfl)))))), ?_⟩
    obtain ⟨KK, EE, hK0, hE, hw⟩ := cW_gen hw
    have S0 := Sep.startG sG
    unfold F__law_shape at hw
    refine ⟨(by show 2 ≤ sizeLine; decide), fun p116 n117 => ?_⟩
    generalize g118 : upd H p116 _ = H119
    obtain ⟨e120, h121⟩ := gen_new n117 g118
    have h122 : H119 p116 = some (.tup [V.int (1), V.int (64)]) := h121
    have fr123 := S0.free n117
    obtain ⟨G125, eG126, hg127, S124⟩ := S0.grow n117 e120 h122 fr123
    refine ⟨fun σ H' => ∃ (luma_130 : (Int × Int)) (u131 : V) (G' : Hp), σ = [some (V.int (chroma')), some (V.int (size')), some u131] ∧ Same G125 G' ∧ Sep [] H G G' H' [] ∧ Rp G' u131 ((encT2 PyData.int PyData.int) luma_130) ∧ cW (F__law_shape_k1 (chroma') luma_130) KK EE, ?_, ?_⟩
    · obtain ⟨K132, hK133, hw⟩ := cW_push hw
      refine ⟨_, rfl, _, _, rfl, rfl, _, rfl, ?_⟩
      refine iteD (fun c134 => ?_) (fun c134 => ?_)
      · have hw := cW_pos c134 hw
        refine ⟨(by show 2 ≤ sizeLine; decide), fun p135 n136 => ?_⟩
        generalize g137 : upd H119 p135 _ = H138
        obtain ⟨e139, h140⟩ := gen_new n136 g137
        have h141 : H138 p135 = some (.tup [V.int (4), V.int (16)]) := h140
        have fr142 := S124.free n136
        obtain ⟨G144, eG145, hg146, S143⟩ := S124.grow n136 e139 h141 fr142
        have hw := cW_ok hw
        have hw := hK133 _ hw
        exact ⟨((4, 16)), _, _, rfl, eG145, S143, (rp_mk2 hg146 (.int _) (.int _)), hw⟩
      · have hw := cW_neg c134 hw
        have hw := cW_ok hw
        have hw := hK133 _ hw
        exact ⟨((1, 64)), _, _, rfl, (Same.refl _), S124, (rp_mk2 hg127 (.int _) (.int _)), hw⟩
    · intro σ H147 hw
      obtain ⟨luma_130, u131, G150, rfl, eG151, S148, r149, hw⟩ := hw
      obtain ⟨a152, v154, v155, rfl, h153, r156, r157⟩ := rp_tup2 r149
      obtain rfl := rp_int r156
      obtain rfl := rp_int r157
      unfold F__law_shape_k1 at hw
      refine ⟨_, rfl, (by show 1 ≤ sizeLine; decide), fun p158 n159 => ?_⟩
      generalize g160 : upd H147 p158 _ = H161
      obtain ⟨e162, h163⟩ := gen_new n159 g160
      have h164 : H161 p158 = some (.lst ([V.ref a152])) := h163
      have fr165 := S148.free n159
      have S166 := S148.new n159 e162 h164 fr165
      have d167 : RpAll G150 ([V.ref a152]) (([luma_130] : (List (Int × Int))).map (encT2 PyData.int PyData.int)) := (RpAll.cons (rp_mk2 h153 (.int _) (.int _)) RpAll.nil)
      refine ⟨_, rfl, (by show 2 ≤ sizeLine; decide), fun p168 n169 => ?_⟩
      generalize g170 : upd H161 p168 _ = H171
      obtain ⟨e172, h173⟩ := gen_new n169 g170
      have h174 : H171 p168 = some (.tup [V.int (1), V.int (16)]) := h173
      have fr175 := S166.free n169
      obtain ⟨G177, eG178, hg179, S176⟩ := S166.grow n169 e172 h174 fr175
      refine ⟨(by show 2 ≤ sizeLine; decide), fun p180 n181 => ?_⟩
      generalize g182 : upd H171 p180 _ = H183
      obtain ⟨e184, h185⟩ := gen_new n181 g182
      have h186 : H183 p180 = some (.tup [V.int (1), V.int (16)]) := h185
      have fr187 := S176.free n181
      obtain ⟨G189, eG190, hg191, S188⟩ := S176.grow n181 e184 h186 fr187
      refine ⟨(by show 3 ≤ sizeLine; decide), fun p192 n193 => ?_⟩
      generalize g194 : upd H183 p192 _ = H195
      obtain ⟨e196, h197⟩ := gen_new n193 g194
      have h198 : H195 p192 = some (.lst ([V.ref a152, V.ref p168, V.ref p180])) := h197
      have fr199 := S188.free n193
      have S200 := S188.new n193 e196 h198 fr199
      have d201 : RpAll G189 ([V.ref a152, V.ref p168, V.ref p180]) (([luma_130, (1, 16), (1, 16)] : (List (Int × Int))).map (encT2 PyData.int PyData.int)) := (RpAll.cons (rp_mk2 (eG190 _ _ (eG178 _ _ h153)) (.int _) (.int _)) (RpAll.cons (rp_mk2 (eG190 _ _ hg179) (.int _) (.int _)) (RpAll.cons (rp_mk2 hg191 (.int _) (.int _)) RpAll.nil)))
      refine ⟨_, rfl, _, rfl, _, rfl, (by show 3 ≤ sizeLine; decide), fun p202 n203 => ?_⟩
      generalize g204 : upd H195 p202 _ = H205
      obtain ⟨e206, h207⟩ := gen_new n203 g204
      have h208 : H205 p202 = some (.lst ([V.ref a152, V.ref a152, V.ref a152])) := h207
      have fr209 := S200.free n203
      have S210 := S200.new n203 e206 h208 fr209
      have d211 : RpAll G189 ([V.ref a152, V.ref a152, V.ref a152]) (([luma_130, luma_130, luma_130] : (List (Int × Int))).map (encT2 PyData.int PyData.int)) := (RpAll.cons (rp_mk2 (eG190 _ _ (eG178 _ _ h153)) (.int _) (.int _)) (RpAll.cons (rp_mk2 (eG190 _ _ (eG178 _ _ h153)) (.int _) (.int _)) (RpAll.cons (rp_mk2 (eG190 _ _ (eG178 _ _ h153)) (.int _) (.int _)) RpAll.nil)))
      have h212 := (e206 _ _ (e196 _ _ (e184 _ _ (e172 _ _ h164))))
      obtain ⟨G213, eG214, hg215, S216⟩ := Sep.freeze (O' := [p202, p192]) S210 (.tail _ (.tail _ (.head _))) h212 fr165 ((all_cons ⟨(.head _), (ne_of_none (e196 _ _ (e184 _ _ (e172 _ _ h164))) n203).symm⟩ (all_cons ⟨(.tail _ (.head _)), (ne_of_none (e184 _ _ (e172 _ _ h164)) n193).symm⟩ all_nil)))
      have h217 := (e206 _ _ h198)
      obtain ⟨G218, eG219, hg220, S221⟩ := Sep.freeze (O' := [p202]) S216 (.tail _ (.head _)) h217 fr199 ((all_cons ⟨(.head _), (ne_of_none h198 n203).symm⟩ all_nil))
      obtain ⟨G222, eG223, hg224, S225⟩ := Sep.freeze (O' := []) S221 (.head _) h208 fr209 (all_nil)
      refine ⟨(by show 3 ≤ sizeLine; decide), fun p226 n227 => ?_⟩
      generalize g228 : upd H205 p226 _ = H229
      obtain ⟨e230, h231⟩ := gen_new n227 g228
      have h232 : H229 p226 = some (.lst ([V.ref p158, V.ref p192, V.ref p202])) := h231
      have fr233 := S225.free n227
      have S234 := S225.new n227 e230 h232 fr233
      have d235 : RpAll G222 ([V.ref p158, V.ref p192, V.ref p202]) (([[luma_130], [luma_130, (1, 16), (1, 16)], [luma_130, luma_130, luma_130]] : (List (List (Int × Int)))).map (encL (encT2 PyData.int PyData.int))) := (RpAll.cons (rp_mk_list (eG223 _ _ (eG219 _ _ hg215)) (RpAll.mono eG223 (RpAll.mono eG219 (RpAll.mono eG214 (RpAll.mono eG190 (RpAll.mono eG178 d167)))))) (RpAll.cons (rp_mk_list (eG223 _ _ hg220) (RpAll.mono eG223 (RpAll.mono eG219 (RpAll.mono eG214 d201)))) (RpAll.cons (rp_mk_list hg224 (RpAll.mono eG223 (RpAll.mono eG219 (RpAll.mono eG214 d211)))) RpAll.nil)))
      obtain ⟨g236, hw⟩ := cW_grd hw
      obtain ⟨v237, a238, r239⟩ := RpAll.ixD (k := chroma') d235 g236
      obtain ⟨a240, vs241, rfl, h242, d243⟩ := rp_list r239
      refine ⟨_, rfl, _, _, _, _, rfl, rfl, (SqL.of h232), a238, ?_⟩
      have hw := cW_ok hw
      exact hK0 _ hw _ _ _ S234.b0 S234.g0 S234.sG S234.gn (rp_mk_list h242 d243)

abbrev N_Format_planes : List Str := ["self"]
theorem sc_Format_planes : FnScope N_Format_planes ["self"] (defScope s_Format_planes) := ⟨rfl, rfl, rfl, by decide +kernel, rfl, by decide +kernel, by decide +kernel⟩
theorem ok_Format_planes (D : PropX K AD.c_Format "Format.planes" "planes" s_Format_planes ["self"] pats_Format_planes) (T : Txt K mg AD)  : PropY P w K mg base 1 AD.c_Format "planes" (sp_Format_planes K AD) pats_Format_planes := by
  refine D.ok T.cl_Format sc_Format_planes (fun vs H Q E h => ?_) (fun f cdv A_ outer s H vs Q E hr h => ?_)
  · obtain ⟨G, p_self, dx_self, self', rfl, _⟩ := h
    rfl
  · obtain ⟨G, p_self, dx_self, self', rfl, sG, h_p_self, hw⟩ := h
    refine ⟨_, (pss_one (ps_ret (pe_ifExp (pt_cmp (pc_eqI (fldK (K := K) (pv 0)) pe_int)) pe_int pe_int))), ?_⟩
    obtain ⟨KK, EE, hK0, hE, hw⟩ := cW_gen hw
    have S0 := Sep.startG sG
    unfold F_Format_planes at hw
    refine vv_if (vt_cmp (vv_cmp (val_fld (val_var rfl) (S0.bM _ _ h_p_self) T.cl_Format T.n_Format_chroma rfl) val_c (fun Q q => ⟨_, _, rfl, rfl, q⟩))) val_c val_c _ ?_
    have hw := cW_ok hw
    exact hK0 _ hw _ S0.b0

abbrev N_level_shape : List Str := ["fmt", "size", "whole", "chroma"]
theorem sc_level_shape : FnScope N_level_shape ["fmt", "size"] (defScope s_level_shape) := ⟨rfl, rfl, rfl, by decide +kernel, rfl, by decide +kernel, by decide +kernel⟩
theorem ok_level_shape (D : DefX K mg "level_shape" s_level_shape ["fmt", "size"] pats_level_shape) (T : Txt K mg AD) (c_Format_planes : PropY P w K mg base 1 AD.c_Format "planes" (sp_Format_planes K AD) pats_Format_planes) : CalX P w K mg base 3 "level_shape" (sp_level_shape K AD) pats_level_shape := by
  refine D.ok sc_level_shape (fun vs H Q E h => ?_) (fun f cdv A_ outer s H vs Q E hr h => ?_)
  · obtain ⟨G, p_fmt, dx_fmt, fmt', size', rfl, _⟩ := h
    rfl
  · obtain ⟨G, p_fmt, dx_fmt, fmt', size', rfl, sG, h_p_fmt, hw⟩ := h
    refine ⟨_, (pss_cons (ps_if (pt_cmpR (op_notInI (K := K)) (pv 1) (pe_tup (pa_cons pe_int (pa_cons pe_int pa_nil))) (by with_unfolding_all rfl)) (pss_one (ps_raise rfl (takes_of rfl rfl rfl rfl) (pmk_own PySem.F.excBase_ValueError T.xx_OutOfRange T.xg_OutOfRange T.xk_OutOfRange (raises_own T.xb_OutOfRange T.xt_OutOfRange) rfl))) pss_nil)
      (pss_cons (ps_set (i := 2) sc_level_shape.nd rfl (Or.inl rfl) (pe_ifExp (pt_cmp (pc_eqI (pv 1) pe_int)) (pe_tup (pa_cons pe_int (pa_cons pe_int pa_nil))) (pe_tup (pa_cons pe_int (pa_cons pe_int pa_nil)))))
      (pss_cons (ps_set (i := 3) sc_level_shape.nd rfl (Or.inl rfl) (pe_ifExp (pt_cmp (pc_eqI (fldK (K := K) (pv 0)) pe_int)) (pe_tup (pa_cons pe_int (pa_cons pe_int pa_nil))) (pv 2)))
      (pss_one (ps_ret (pe_op op_cat (pe_lst (pa_cons (pv 2) pa_nil)) (pe_op op_rep (pe_lst (pa_cons (pv 3) pa_nil)) (pe_op op_sub (vx_propX c_Format_planes hr (by decide) (pv 0)) pe_int)))))))), ?_⟩
    obtain ⟨KK, EE, hK0, hE, hw⟩ := cW_gen hw
    have S0 := Sep.startG sG
    unfold F_level_shape at hw
    refine ⟨_, rfl, (by show 2 ≤ sizeLine; decide), fun p247 n248 => ?_⟩
    generalize g249 : upd H p247 _ = H250
    obtain ⟨e251, h252⟩ := gen_new n248 g249
    have h253 : H250 p247 = some (.tup [V.int (4), V.int (8)]) := h252
    have fr254 := S0.free n248
    obtain ⟨G256, eG257, hg258, S255⟩ := S0.grow n248 e251 h253 fr254
    refine ⟨_, _, ([4, 8] : List Int), rfl, rfl, (.inr (SqT.of (S255.sG _ _ hg258))), _, rfl, ?_⟩
    refine iteN (fun c259 => ?_) (fun c259 => ?_)
    · have hw := cW_neg c259 hw
      exact hE 2 (cW_er hw) _ S255.b0
    · have hw := cW_pos c259 hw
      refine ⟨_, rfl, _, _, rfl, rfl, _, rfl, ?_⟩
      refine iteD (fun c260 => ?_) (fun c260 => ?_)
      · have hw := cW_pos c260 hw
        refine ⟨(by show 2 ≤ sizeLine; decide), fun p261 n262 => ?_⟩
        generalize g263 : upd H250 p261 _ = H264
        obtain ⟨e265, h266⟩ := gen_new n262 g263
        have h267 : H264 p261 = some (.tup [V.int (1), V.int (64)]) := h266
        have fr268 := S255.free n262
        obtain ⟨G270, eG271, hg272, S269⟩ := S255.grow n262 e265 h267 fr268
        refine ⟨_, rfl, _, _, _, _, _, rfl, (S269.bM _ _ h_p_fmt), T.cl_Format, T.n_Format_chroma, rfl, _, _, rfl, rfl, _, rfl, ?_⟩
        refine iteD (fun c273 => ?_) (fun c273 => ?_)
        · have hw := cW_pos c273 hw
          refine ⟨(by show 2 ≤ sizeLine; decide), fun p274 n275 => ?_⟩
          generalize g276 : upd H264 p274 _ = H277
          obtain ⟨e278, h279⟩ := gen_new n275 g276
          have h280 : H277 p274 = some (.tup [V.int (1), V.int (16)]) := h279
          have fr281 := S269.free n275
          obtain ⟨G283, eG284, hg285, S282⟩ := S269.grow n275 e278 h280 fr281
          refine ⟨_, rfl, (by show 1 ≤ sizeLine; decide), fun p286 n287 => ?_⟩
          generalize g288 : upd H277 p286 _ = H289
          obtain ⟨e290, h291⟩ := gen_new n287 g288
          have h292 : H289 p286 = some (.lst ([V.ref p261])) := h291
          have fr293 := S282.free n287
          have S294 := S282.new n287 e290 h292 fr293
          have d295 : RpAll G283 ([V.ref p261]) (([(1, 64)] : (List (Int × Int))).map (encT2 PyData.int PyData.int)) := (RpAll.cons (rp_mk2 (eG284 _ _ hg272) (.int _) (.int _)) RpAll.nil)
          refine ⟨_, rfl, (by show 1 ≤ sizeLine; decide), fun p296 n297 => ?_⟩
          generalize g298 : upd H289 p296 _ = H299
          obtain ⟨e300, h301⟩ := gen_new n297 g298
          have h302 : H299 p296 = some (.lst ([V.ref p274])) := h301
          have fr303 := S294.free n297
          have S304 := S294.new n297 e300 h302 fr303
          have d305 : RpAll G283 ([V.ref p274]) (([(1, 16)] : (List (Int × Int))).map (encT2 PyData.int PyData.int)) := (RpAll.cons (rp_mk2 hg285 (.int _) (.int _)) RpAll.nil)
          refine ⟨_, rfl, _, _, _, rfl, (S304.bM _ _ h_p_fmt), G283, _, _, fmt', rfl, S304.sG, (hide_nil (S304.bM _ _ h_p_fmt)), cW_callN hw (fun v306 hw H307 e308 => ?_) trivial⟩
          have S309 := S304.same e308
          obtain ⟨g310, hw⟩ := cW_grd hw
          have h311 := (e308 _ _ h302)
          refine ⟨_, _, rfl, rfl, _, _, _, rfl, rfl, h311, g310.1, g310.2.1, (rep_len d305 g310.2.2), fun p312 n313 => ?_⟩
          generalize g314 : upd H307 p312 _ = H315
          obtain ⟨e316, h317⟩ := gen_new n313 g314
          have h318 : H315 p312 = some (.lst ((List.replicate (Int.toNat ((v306 - 1))) ([V.ref p274])).flatten)) := h317
          have fr319 := S309.free n313
          have S320 := S309.new n313 e316 h318 fr319
          have d321 : RpAll G283 ((List.replicate (Int.toNat ((v306 - 1))) ([V.ref p274])).flatten) ((repL ([(1, 16)]) ((v306 - 1)) : (List (Int × Int))).map (encT2 PyData.int PyData.int)) := rep_all ((v306 - 1)) d305
          obtain ⟨g322, hw⟩ := cW_grd hw
          have h323 := (e316 _ _ (e308 _ _ (e300 _ _ h292)))
          obtain ⟨G324, eG325, hg326, S327⟩ := Sep.freeze (O' := [p312, p296]) S320 (.tail _ (.tail _ (.head _))) h323 fr293 ((all_cons ⟨(.head _), (ne_of_none (e308 _ _ (e300 _ _ h292)) n313).symm⟩ (all_cons ⟨(.tail _ (.head _)), (ne_of_none h292 n297).symm⟩ all_nil)))
          obtain ⟨G328, eG329, hg330, S331⟩ := Sep.freeze (O' := [p296]) S327 (.head _) h318 fr319 ((all_cons ⟨(.tail _ (.head _)), (ne_of_none h311 n313)⟩ all_nil))
          refine ⟨_, _, _, _, rfl, rfl, h323, h318, (cat_len d295 d321 g322), fun p332 n333 => ?_⟩
          generalize g334 : upd H315 p332 _ = H335
          obtain ⟨e336, h337⟩ := gen_new n333 g334
          have h338 : H335 p332 = some (.lst ([V.ref p261] ++ (List.replicate (Int.toNat ((v306 - 1))) ([V.ref p274])).flatten)) := h337
          have fr339 := S331.free n333
          have S340 := S331.new n333 e336 h338 fr339
          have d341 : RpAll G328 ([V.ref p261] ++ (List.replicate (Int.toNat ((v306 - 1))) ([V.ref p274])).flatten) ((([(1, 64)]) ++ (repL ([(1, 16)]) ((v306 - 1))) : (List (Int × Int))).map (encT2 PyData.int PyData.int)) := app_map (RpAll.mono eG329 (RpAll.mono eG325 d295)) (RpAll.mono eG329 (RpAll.mono eG325 d321))
          obtain ⟨G342, eG343, hg344, S345⟩ := Sep.freeze (O' := [p296]) S340 (.head _) h338 fr339 ((all_cons ⟨(.tail _ (.head _)), (ne_of_none (e316 _ _ h311) n333)⟩ all_nil))
          have hw := cW_ok hw
          exact hK0 _ hw _ _ _ S345.b0 S345.g0 S345.sG S345.gn (rp_mk_list hg344 (RpAll.mono eG343 d341))
        · have hw := cW_neg c273 hw
          refine ⟨_, rfl, _, rfl, (by show 1 ≤ sizeLine; decide), fun p346 n347 => ?_⟩
          generalize g348 : upd H264 p346 _ = H349
          obtain ⟨e350, h351⟩ := gen_new n347 g348
          have h352 : H349 p346 = some (.lst ([V.ref p261])) := h351
          have fr353 := S269.free n347
          have S354 := S269.new n347 e350 h352 fr353
          have d355 : RpAll G270 ([V.ref p261]) (([(1, 64)] : (List (Int × Int))).map (encT2 PyData.int PyData.int)) := (RpAll.cons (rp_mk2 hg272 (.int _) (.int _)) RpAll.nil)
          refine ⟨_, rfl, (by show 1 ≤ sizeLine; decide), fun p356 n357 => ?_⟩
          generalize g358 : upd H349 p356 _ = H359
          obtain ⟨e360, h361⟩ := gen_new n357 g358
          have h362 : H359 p356 = some (.lst ([V.ref p261])) := h361
          have fr363 := S354.free n357
          have S364 := S354.new n357 e360 h362 fr363
          have d365 : RpAll G270 ([V.ref p261]) (([(1, 64)] : (List (Int × Int))).map (encT2 PyData.int PyData.int)) := (RpAll.cons (rp_mk2 hg272 (.int _) (.int _)) RpAll.nil)
          refine ⟨_, rfl, _, _, _, rfl, (S364.bM _ _ h_p_fmt), G270, _, _, fmt', rfl, S364.sG, (hide_nil (S364.bM _ _ h_p_fmt)), cW_callN hw (fun v366 hw H367 e368 => ?_) trivial⟩
          have S369 := S364.same e368
          obtain ⟨g370, hw⟩ := cW_grd hw
          have h371 := (e368 _ _ h362)
          refine ⟨_, _, rfl, rfl, _, _, _, rfl, rfl, h371, g370.1, g370.2.1, (rep_len d365 g370.2.2), fun p372 n373 => ?_⟩
          generalize g374 : upd H367 p372 _ = H375
          obtain ⟨e376, h377⟩ := gen_new n373 g374
          have h378 : H375 p372 = some (.lst ((List.replicate (Int.toNat ((v366 - 1))) ([V.ref p261])).flatten)) := h377
          have fr379 := S369.free n373
          have S380 := S369.new n373 e376 h378 fr379
          have d381 : RpAll G270 ((List.replicate (Int.toNat ((v366 - 1))) ([V.ref p261])).flatten) ((repL ([(1, 64)]) ((v366 - 1)) : (List (Int × Int))).map (encT2 PyData.int PyData.int)) := rep_all ((v366 - 1)) d365
          obtain ⟨g382, hw⟩ := cW_grd hw
          have h383 := (e376 _ _ (e368 _ _ (e360 _ _ h352)))
          obtain ⟨G384, eG385, hg386, S387⟩ := Sep.freeze (O' := [p372, p356]) S380 (.tail _ (.tail _ (.head _))) h383 fr353 ((all_cons ⟨(.head _), (ne_of_none (e368 _ _ (e360 _ _ h352)) n373).symm⟩ (all_cons ⟨(.tail _ (.head _)), (ne_of_none h352 n357).symm⟩ all_nil)))
          obtain ⟨G388, eG389, hg390, S391⟩ := Sep.freeze (O' := [p356]) S387 (.head _) h378 fr379 ((all_cons ⟨(.tail _ (.head _)), (ne_of_none h371 n373)⟩ all_nil))
          refine ⟨_, _, _, _, rfl, rfl, h383, h378, (cat_len d355 d381 g382), fun p392 n393 => ?_⟩
          generalize g394 : upd H375 p392 _ = H395
          obtain ⟨e396, h397⟩ := gen_new n393 g394
          have h398 : H395 p392 = some (.lst ([V.ref p261] ++ (List.replicate (Int.toNat ((v366 - 1))) ([V.ref p261])).flatten)) := h397
          have fr399 := S391.free n393
          have S400 := S391.new n393 e396 h398 fr399
          have d401 : RpAll G388 ([V.ref p261] ++ (List.replicate (Int.toNat ((v366 - 1))) ([V.ref p261])).flatten) ((([(1, 64)]) ++ (repL ([(1, 64)]) ((v366 - 1))) : (List (Int × Int))).map (encT2 PyData.int PyData.int)) := app_map (RpAll.mono eG389 (RpAll.mono eG385 d355)) (RpAll.mono eG389 (RpAll.mono eG385 d381))
          obtain ⟨G402, eG403, hg404, S405⟩ := Sep.freeze (O' := [p356]) S400 (.head _) h398 fr399 ((all_cons ⟨(.tail _ (.head _)), (ne_of_none (e376 _ _ h371) n393)⟩ all_nil))
          have hw := cW_ok hw
          exact hK0 _ hw _ _ _ S405.b0 S405.g0 S405.sG S405.gn (rp_mk_list hg404 (RpAll.mono eG403 d401))
      · have hw := cW_neg c260 hw
        refine ⟨(by show 2 ≤ sizeLine; decide), fun p406 n407 => ?_⟩
        generalize g408 : upd H250 p406 _ = H409
        obtain ⟨e410, h411⟩ := gen_new n407 g408
        have h412 : H409 p406 = some (.tup [V.int (4), V.int (16)]) := h411
        have fr413 := S255.free n407
        obtain ⟨G415, eG416, hg417, S414⟩ := S255.grow n407 e410 h412 fr413
        refine ⟨_, rfl, _, _, _, _, _, rfl, (S414.bM _ _ h_p_fmt), T.cl_Format, T.n_Format_chroma, rfl, _, _, rfl, rfl, _, rfl, ?_⟩
        refine iteD (fun c418 => ?_) (fun c418 => ?_)
        · have hw := cW_pos c418 hw
          refine ⟨(by show 2 ≤ sizeLine; decide), fun p419 n420 => ?_⟩
          generalize g421 : upd H409 p419 _ = H422
          obtain ⟨e423, h424⟩ := gen_new n420 g421
          have h425 : H422 p419 = some (.tup [V.int (1), V.int (16)]) := h424
          have fr426 := S414.free n420
          obtain ⟨G428, eG429, hg430, S427⟩ := S414.grow n420 e423 h425 fr426
          refine ⟨_, rfl, (by show 1 ≤ sizeLine; decide), fun p431 n432 => ?_⟩
          generalize g433 : upd H422 p431 _ = H434
          obtain ⟨e435, h436⟩ := gen_new n432 g433
          have h437 : H434 p431 = some (.lst ([V.ref p406])) := h436
          have fr438 := S427.free n432
          have S439 := S427.new n432 e435 h437 fr438
          have d440 : RpAll G428 ([V.ref p406]) (([(4, 16)] : (List (Int × Int))).map (encT2 PyData.int PyData.int)) := (RpAll.cons (rp_mk2 (eG429 _ _ hg417) (.int _) (.int _)) RpAll.nil)
          refine ⟨_, rfl, (by show 1 ≤ sizeLine; decide), fun p441 n442 => ?_⟩
          generalize g443 : upd H434 p441 _ = H444
          obtain ⟨e445, h446⟩ := gen_new n442 g443
          have h447 : H444 p441 = some (.lst ([V.ref p419])) := h446
          have fr448 := S439.free n442
          have S449 := S439.new n442 e445 h447 fr448
          have d450 : RpAll G428 ([V.ref p419]) (([(1, 16)] : (List (Int × Int))).map (encT2 PyData.int PyData.int)) := (RpAll.cons (rp_mk2 hg430 (.int _) (.int _)) RpAll.nil)
          refine ⟨_, rfl, _, _, _, rfl, (S449.bM _ _ h_p_fmt), G428, _, _, fmt', rfl, S449.sG, (hide_nil (S449.bM _ _ h_p_fmt)), cW_callN hw (fun v451 hw H452 e453 => ?_) trivial⟩
          have S454 := S449.same e453
          obtain ⟨g455, hw⟩ := cW_grd hw
          have h456 := (e453 _ _ h447)
          refine ⟨_, _, rfl, rfl, _, _, _, rfl, rfl, h456, g455.1, g455.2.1, (rep_len d450 g455.2.2), fun p457 n458 => ?_⟩
          generalize g459 : upd H452 p457 _ = H460
          obtain ⟨e461, h462⟩ := gen_new n458 g459
          have h463 : H460 p457 = some (.lst ((List.replicate (Int.toNat ((v451 - 1))) ([V.ref p419])).flatten)) := h462
          have fr464 := S454.free n458
          have S465 := S454.new n458 e461 h463 fr464
          have d466 : RpAll G428 ((List.replicate (Int.toNat ((v451 - 1))) ([V.ref p419])).flatten) ((repL ([(1, 16)]) ((v451 - 1)) : (List (Int × Int))).map (encT2 PyData.int PyData.int)) := rep_all ((v451 - 1)) d450
          obtain ⟨g467, hw⟩ := cW_grd hw
          have h468 := (e461 _ _ (e453 _ _ (e445 _ _ h437)))
          obtain ⟨G469, eG470, hg471, S472⟩ := Sep.freeze (O' := [p457, p441]) S465 (.tail _ (.tail _ (.head _))) h468 fr438 ((all_cons ⟨(.head _), (ne_of_none (e453 _ _ (e445 _ _ h437)) n458).symm⟩ (all_cons ⟨(.tail _ (.head _)), (ne_of_none h437 n442).symm⟩ all_nil)))
          obtain ⟨G473, eG474, hg475, S476⟩ := Sep.freeze (O' := [p441]) S472 (.head _) h463 fr464 ((all_cons ⟨(.tail _ (.head _)), (ne_of_none h456 n458)⟩ all_nil))
          refine ⟨_, _, _, _, rfl, rfl, h468, h463, (cat_len d440 d466 g467), fun p477 n478 => ?_⟩
          generalize g479 : upd H460 p477 _ = H480
          obtain ⟨e481, h482⟩ := gen_new n478 g479
          have h483 : H480 p477 = some (.lst ([V.ref p406] ++ (List.replicate (Int.toNat ((v451 - 1))) ([V.ref p419])).flatten)) := h482
          have fr484 := S476.free n478
          have S485 := S476.new n478 e481 h483 fr484
          have d486 : RpAll G473 ([V.ref p406] ++ (List.replicate (Int.toNat ((v451 - 1))) ([V.ref p419])).flatten) ((([(4, 16)]) ++ (repL ([(1, 16)]) ((v451 - 1))) : (List (Int × Int))).map (encT2 PyData.int PyData.int)) := app_map (RpAll.mono eG474 (RpAll.mono eG470 d440)) (RpAll.mono eG474 (RpAll.mono eG470 d466))
          obtain ⟨G487, eG488, hg489, S490⟩ := Sep.freeze (O' := [p441]) S485 (.head _) h483 fr484 ((all_cons ⟨(.tail _ (.head _)), (ne_of_none (e461 _ _ h456) n478)⟩ all_nil))
          have hw := cW_ok hw
          exact hK0 _ hw _ _ _ S490.b0 S490.g0 S490.sG S490.gn (rp_mk_list hg489 (RpAll.mono eG488 d486))
        · have hw := cW_neg c418 hw
          refine ⟨_, rfl, _, rfl, (by show 1 ≤ sizeLine; decide), fun p491 n492 => ?_⟩
          generalize g493 : upd H409 p491 _ = H494
          obtain ⟨e495, h496⟩ := gen_new n492 g493
          have h497 : H494 p491 = some (.lst ([V.ref p406])) := h496
          have fr498 := S414.free n492
          have S499 := S414.new n492 e495 h497 fr498
          have d500 : RpAll G415 ([V.ref p406]) (([(4, 16)] : (List (Int × Int))).map (encT2 PyData.int PyData.int)) := (RpAll.cons (rp_mk2 hg417 (.int _) (.int _)) RpAll.nil)
          refine ⟨_, rfl, (by show 1 ≤ sizeLine; decide), fun p501 n502 => ?_⟩
          generalize g503 : upd H494 p501 _ = H504
          obtain ⟨e505, h506⟩ := gen_new n502 g503
          have h507 : H504 p501 = some (.lst ([V.ref p406])) := h506
          have fr508 := S499.free n502
          have S509 := S499.new n502 e505 h507 fr508
          have d510 : RpAll G415 ([V.ref p406]) (([(4, 16)] : (List (Int × Int))).map (encT2 PyData.int PyData.int)) := (RpAll.cons (rp_mk2 hg417 (.int _) (.int _)) RpAll.nil)
          refine ⟨_, rfl, _, _, _, rfl, (S509.bM _ _ h_p_fmt), G415, _, _, fmt', rfl, S509.sG, (hide_nil (S509.bM _ _ h_p_fmt)), cW_callN hw (fun v511 hw H512 e513 => ?_) trivial⟩
          have S514 := S509.same e513
          obtain ⟨g515, hw⟩ := cW_grd hw
          have h516 := (e513 _ _ h507)
          refine ⟨_, _, rfl, rfl, _, _, _, rfl, rfl, h516, g515.1, g515.2.1, (rep_len d510 g515.2.2), fun p517 n518 => ?_⟩
          generalize g519 : upd H512 p517 _ = H520
          obtain ⟨e521, h522⟩ := gen_new n518 g519
          have h523 : H520 p517 = some (.lst ((List.replicate (Int.toNat ((v511 - 1))) ([V.ref p406])).flatten)) := h522
          have fr524 := S514.free n518
          have S525 := S514.new n518 e521 h523 fr524
          have d526 : RpAll G415 ((List.replicate (Int.toNat ((v511 - 1))) ([V.ref p406])).flatten) ((repL ([(4, 16)]) ((v511 - 1)) : (List (Int × Int))).map (encT2 PyData.int PyData.int)) := rep_all ((v511 - 1)) d510
          obtain ⟨g527, hw⟩ := cW_grd hw
          have h528 := (e521 _ _ (e513 _ _ (e505 _ _ h497)))
          obtain ⟨G529, eG530, hg531, S532⟩ := Sep.freeze (O' := [p517, p501]) S525 (.tail _ (.tail _ (.head _))) h528 fr498 ((all_cons ⟨(.head _), (ne_of_none (e513 _ _ (e505 _ _ h497)) n518).symm⟩ (all_cons ⟨(.tail _ (.head _)), (ne_of_none h497 n502).symm⟩ all_nil)))
          obtain ⟨G533, eG534, hg535, S536⟩ := Sep.freeze (O' := [p501]) S532 (.head _) h523 fr524 ((all_cons ⟨(.tail _ (.head _)), (ne_of_none h516 n518)⟩ all_nil))
          refine ⟨_, _, _, _, rfl, rfl, h528, h523, (cat_len d500 d526 g527), fun p537 n538 => ?_⟩
          generalize g539 : upd H520 p537 _ = H540
          obtain ⟨e541, h542⟩ := gen_new n538 g539
          have h543 : H540 p537 = some (.lst ([V.ref p406] ++ (List.replicate (Int.toNat ((v511 - 1))) ([V.ref p406])).flatten)) := h542
          have fr544 := S536.free n538
          have S545 := S536.new n538 e541 h543 fr544
          have d546 : RpAll G533 ([V.ref p406] ++ (List.replicate (Int.toNat ((v511 - 1))) ([V.ref p406])).flatten) ((([(4, 16)]) ++ (repL ([(4, 16)]) ((v511 - 1))) : (List (Int × Int))).map (encT2 PyData.int PyData.int)) := app_map (RpAll.mono eG534 (RpAll.mono eG530 d500)) (RpAll.mono eG534 (RpAll.mono eG530 d526))
          obtain ⟨G547, eG548, hg549, S550⟩ := Sep.freeze (O' := [p501]) S545 (.head _) h543 fr544 ((all_cons ⟨(.tail _ (.head _)), (ne_of_none (e521 _ _ h516) n538)⟩ all_nil))
          have hw := cW_ok hw
          exact hK0 _ hw _ _ _ S550.b0 S550.g0 S550.sG S550.gn (rp_mk_list hg549 (RpAll.mono eG548 d546))

abbrev N_zero_levels : List Str := ["fmt", "size", "count", "length", "_"]
theorem sc_zero_levels : FnScope N_zero_levels ["fmt", "size"] (defScope s_zero_levels) := ⟨rfl, rfl, rfl, by decide +kernel, rfl, by decide +kernel, by decide +kernel⟩
theorem ok_zero_levels (D : DefX K mg "zero_levels" s_zero_levels ["fmt", "size"] pats_zero_levels) (T : Txt K mg AD) (c_level_shape : CalX P w K mg base 3 "level_shape" (sp_level_shape K AD) pats_level_shape) : CalX P w K mg base 4 "zero_levels" (sp_zero_levels K AD) pats_zero_levels := by
  refine D.ok sc_zero_levels (fun vs H Q E h => ?_) (fun f cdv A_ outer s H vs Q E hr h => ?_)
  · obtain ⟨G, p_fmt, dx_fmt, fmt', size', rfl, _⟩ := h
    rfl
  · obtain ⟨G, p_fmt, dx_fmt, fmt', size', rfl, sG, h_p_fmt, hw⟩ := h
    refine ⟨_, (pss_one (ps_ret (pe_lc (own := [("count", 2), ("length", 3)]) (g := gTup K 2 (gCons (gName 2) (gCons (gName 3) gNil))) (by rfl) sc_zero_levels.nd (pi_listK (K := K) (vx_callX c_level_shape pat_level_shape_0 (.head _) hr (by decide) (takes_of rfl rfl rfl rfl) rfl (pa_cons (pv 0) (pa_cons (pv 1) pa_nil)) pk_nil)) (blkOk_by (own := [("count", 2), ("length", 3)]) (N := N_zero_levels) (sc := defScope s_zero_levels) (by decide +kernel)) (fun _ _ _ _ _ => (pg_tupK (K := K) (n := 2) (pgs_cons (pg_name (i := 2) sc_zero_levels.nd rfl (Or.inl rfl)) (pgs_cons (pg_name (i := 3) sc_zero_levels.nd rfl (Or.inr rfl)) pgs_nil)))) (fun _ _ _ _ _ => pts_nil) (fun _ _ _ _ _ => (pe_lc (own := [("_", 4)]) (g := gName 4) (by rfl) sc_zero_levels.nd (pi_range1 rfl T.b_range (pa_cons (pv 2) pa_nil)) (blk_relabel (blkOk_by (own := [("_", 4)]) (N := N_zero_levels) (by decide +kernel))) (fun _ _ _ _ _ => (pg_name (i := 4) sc_zero_levels.nd rfl (Or.inl rfl))) (fun _ _ _ _ _ => pts_nil) (fun _ _ _ _ _ => (pe_op op_rep (pe_lst (pa_cons pe_int pa_nil)) (pv 3)))))))), ?_⟩
    obtain ⟨KK, EE, hK0, hE, hw⟩ := cW_gen hw
    have S0 := Sep.startG sG
    unfold F_zero_levels at hw
    refine ⟨_, rfl, _, rfl, rfl, rfl, G, _, _, fmt', _, rfl, S0.sG, (hide_nil (S0.bM _ _ h_p_fmt)), cW_call hw (fun v551 hw v554 H552 G555 e553 eG556 sG557 hn558 r559 => ?_) (fun e he H2 e2 => hE e he H2 (Same.trans S0.b0 e2))⟩
    have S560 := S0.step e553 eG556 sG557 hn558
    obtain ⟨a561, vs562, rfl, h563, d564⟩ := rp_list r559
    obtain ⟨K566, hK567, hw⟩ := cW_push hw
    refine ⟨_, rfl, ⟨_, (SqL.of (S560.sG _ _ h563))⟩, fun D568 n569 => lc_list (K := K) (a := a561) (xs := vs562) (fun i H' => ∃ (G' : Hp) (acc571 : (List (List (List Int)))) (vs572 : List V) (L570 : List Addr), Same G555 G' ∧ Sep [] H G G' H' (D568 :: (L570 ++ [])) ∧ H' D568 = some (.lst vs572) ∧ OwAll G' H' L570 vs572 ((acc571 : (List (List (List Int)))).map (oL (oL oI))) ∧ (∀ b ∈ L570, H552 b = none) ∧ (∀ b ∈ L570, b ≠ D568) ∧ Same H552 H' ∧ cW (mapA (List.drop i (v551)) acc571 (fun x => noEr (F_zero_levels_c1  x))) K566 EE) ?_ ?_ ?_ ?_⟩
    · generalize g573 : upd H552 D568 _ = H574
      obtain ⟨e575, h576⟩ := gen_new n569 g573
      have fr577 := S560.free n569
      have S578 := S560.new n569 e575 h576 fr577
      exact ⟨_, [], [], [], Same.refl _, (S578.sub (all_cons (.head _) (all_app (L := []) all_nil all_nil))), h576, OwAll.nil, all_nil, all_nil, e575, hw⟩
    · intro i H579 _ hw
      obtain ⟨G582, acc584, vs585, L587, eG583, S580, h581, d586, nb588, nd589, eo590, hw⟩ := hw
      exact (SqL.of (S580.sG _ _ (eG583 _ _ h563)))
    · intro i x H591 hj hw
      obtain ⟨G594, acc596, vs597, L599, eG595, S592, h593, d598, nb600, nd601, eo602, hw⟩ := hw
      obtain ⟨x603, hx, r604⟩ := RpAll.get (RpAll.mono eG595 d564) hj
      obtain ⟨a605, v607, v608, rfl, h606, r609, r610⟩ := rp_tup2 r604
      obtain rfl := rp_int r609
      obtain rfl := rp_int r610
      obtain ⟨z611, hw⟩ := cW_mapA hx hw
      have hw := cW_noEr hw
      have hw : cW (F_zero_levels_c1  (x603)) _ (fun _ => False) := hw
      unfold F_zero_levels_c1 at hw
      refine ⟨_, _, rfl, (SqT.of (S592.sG _ _ h606)), rfl, _, _, rfl, _, _, rfl, rfl, rfl, ?_⟩
      refine tyes_go ?_
      obtain ⟨g613, hw⟩ := cW_grd hw
      obtain ⟨K616, hK617, hw⟩ := cW_push hw
      refine ⟨_, rfl, _, rfl, g613.1, g613.2, fun D618 n619 => lc_range (lo := 0) (n := Int.toNat (x603.1)) (fun i2 H' => ∃ (G' : Hp) (acc621 : (List (List Int))) (vs622 : List V) (L620 : List Addr), Same G594 G' ∧ Sep [] H G G' H' (D618 :: (L620 ++ (D568 :: (L599 ++ [])))) ∧ H' D568 = some (.lst (vs597)) ∧ H' D618 = some (.lst vs622) ∧ OwAll G' H' L599 (vs597) ((acc596 : (List (List (List Int)))).map (oL (oL oI))) ∧ OwAll G' H' L620 vs622 ((acc621 : (List (List Int))).map (oL oI)) ∧ (∀ b ∈ L620, H591 b = none) ∧ (∀ b ∈ L620, b ≠ D618) ∧ Same H591 H' ∧ cW (mapA (List.drop i2 (rng (0) (Int.toNat (x603.1)))) acc621 (fun x => noEr (F_zero_levels_c2 (x603.2) x))) K616 (fun _ => False)) ?_ ?_ ?_⟩
      · generalize g623 : upd H591 D618 _ = H624
        obtain ⟨e625, h626⟩ := gen_new n619 g623
        have fr627 := S592.free n619
        have S628 := S592.new n619 e625 h626 fr627
        have h629 := (e625 _ _ h593)
        have w630 : OwAll G594 H624 L599 (vs597) ((acc596 : (List (List (List Int)))).map (oL (oL oI))) := (OwAll.mono (Same.refl _) (keeps_same e625) d598)
        exact ⟨_, [], [], [], Same.refl _, (S628.sub (all_cons (.head _) (all_app (L := []) all_nil (all_cons (.tail _ (.head _)) (all_app ((fun b hb => (.tail _ (.tail _ (List.mem_append_left _ hb)))) : ∀ b ∈ L599, b ∈ (D618 :: (D568 :: (L599 ++ [])))) all_nil))))), h629, h626, w630, OwAll.nil, all_nil, all_nil, e625, hw⟩
      · intro i2 H631 hi hw
        obtain ⟨G634, acc636, vs637, L639, eG635, S632, h643, h633, w644, d638, nb640, nd641, eo642, hw⟩ := hw
        obtain ⟨z645, hw⟩ := cW_mapA (rng_get hi) hw
        generalize (0 + (i2 : Int)) = x646 at hw ⊢
        have hw := cW_noEr hw
        have hw : cW (F_zero_levels_c2 (x603.2) (x646)) _ (fun _ => False) := hw
        unfold F_zero_levels_c2 at hw
        refine ⟨rfl, ?_⟩
        refine tyes_go ?_
        refine ⟨(by show 1 ≤ sizeLine; decide), fun p648 n649 => ?_⟩
        generalize g650 : upd H631 p648 _ = H651
        obtain ⟨e652, h653⟩ := gen_new n649 g650
        have h654 : H651 p648 = some (.lst (([0] : (List Int)).map V.int)) := h653
        have fr655 := S632.free n649
        have S656 := S632.new n649 e652 h654 fr655
        obtain ⟨g657, hw⟩ := cW_grd hw
        refine ⟨_, rfl, _, _, _, rfl, rfl, h654, g657.1, g657.2.1, (rep_lenM g657.2.2), fun p658 n659 => ?_⟩
        generalize g660 : upd H651 p658 _ = H661
        obtain ⟨e662, h663⟩ := gen_new n659 g660
        have h664 : H661 p658 = some (.lst ((repL ([0]) (x603.2) : (List Int)).map V.int)) := rep_map h663
        have fr665 := S656.free n659
        have S666 := S656.new n659 e662 h664 fr665
        have w667 : OwAll G634 H661 L639 (vs637) ((acc636 : (List (List Int))).map (oL oI)) := (OwAll.mono (Same.refl _) (keeps_same e662) (OwAll.mono (Same.refl _) (keeps_same e652) d638))
        have h668 := (e662 _ _ (e652 _ _ h633))
        refine ⟨_, h668, (app_len (OwAll.rpA w667 (encO_L encO_I) S666.sG) z645), ?_⟩
        generalize g669 : upd H661 D618 _ = H670
        obtain ⟨x671, h672⟩ := gen_mut g669
        have S673 := S666.mut1 x671 (.tail _ (.tail _ (.head _))) h672
        have hw := cW_ok hw
        have h674 := (x671 _ _ (e662 _ _ (e652 _ _ h643)) (ne_of_none h593 n619))
        have w675 : OwAll G634 H670 L599 (vs597) ((acc596 : (List (List (List Int)))).map (oL (oL oI))) := (OwAll.mono (Same.refl _) (keeps_mut x671 ((there_ne (fun b_ hb_ => (S592.ow b_ (((fun b hb => (.tail _ (List.mem_append_left _ hb))) : ∀ b ∈ L599, b ∈ (D568 :: (L599 ++ []))) b_ hb_)).2.1) n619) : ∀ b ∈ L599, b ≠ D618)) (OwAll.mono (Same.refl _) (keeps_same e662) (OwAll.mono (Same.refl _) (keeps_same e652) w644)))
        exact ⟨_, (acc636 ++ [repL ([0]) (x603.2)]), _, (L639 ++ (p658 :: ([] : List Addr))), eG635, (S673.sub (all_cons (.tail _ (.tail _ (.head _))) (all_app (all_app ((fun b hb => (.tail _ (.tail _ (.tail _ (List.mem_append_left _ hb))))) : ∀ b ∈ L639, b ∈ (p658 :: (p648 :: (D618 :: (L639 ++ (D568 :: (L599 ++ []))))))) (all_cons (.head _) all_nil)) (all_cons (.tail _ (.tail _ (.tail _ (List.mem_append_right _ (.head _))))) (all_app ((fun b hb => (.tail _ (.tail _ (.tail _ (List.mem_append_right _ (.tail _ (List.mem_append_left _ hb))))))) : ∀ b ∈ L599, b ∈ (p658 :: (p648 :: (D618 :: (L639 ++ (D568 :: (L599 ++ []))))))) all_nil))))), h674, h672, w675, (OwAll.mono (Same.refl _) (keeps_mut x671 ((all_app nd641 (all_cons (ne_of_none (e652 _ _ h633) n659).symm all_nil)) : ∀ b ∈ (L639 ++ (p658 :: ([] : List Addr))), b ≠ D618)) (OwAll.snocM w667 (Ow.ints h664) ((fun b hb => (nm_cons ((there_ne (fun b_ hb_ => (S656.ow b_ (((fun b hb => (.tail _ (.tail _ (List.mem_append_left _ hb)))) : ∀ b ∈ L639, b ∈ (p648 :: (D618 :: (L639 ++ (D568 :: (L599 ++ [])))))) b_ hb_)).2.1) n659) b hb) nm_nil)) : ∀ b ∈ L639, b ∉ (p658 :: ([] : List Addr))))), ((all_app nb640 (all_cons (none_of_same (Same.trans eo642 e652) n659) all_nil)) : ∀ b ∈ (L639 ++ (p658 :: ([] : List Addr))), H591 b = none), ((all_app nd641 (all_cons (ne_of_none (e652 _ _ h633) n659).symm all_nil)) : ∀ b ∈ (L639 ++ (p658 :: ([] : List Addr))), b ≠ D618), (same_mut (Same.trans (Same.trans eo642 e652) e662) x671 n619), hw⟩
      intro H676 hw
      obtain ⟨G679, acc681, vs682, L684, eG680, S677, h688, h678, w689, d683, nb685, nd686, eo687, hw⟩ := hw
      have hw := hK617 _ (cW_mapA0 (rng_len _ _).symm hw)
      have fr690 := S592.free n619
      refine ⟨_, h688, (app_len (OwAll.rpA w689 (encO_L (encO_L encO_I)) S677.sG) z611), ?_⟩
      generalize g691 : upd H676 D568 _ = H692
      obtain ⟨x693, h694⟩ := gen_mut g691
      have S695 := S677.mut1 x693 (.tail _ (List.mem_append_right _ (.head _))) h694
      have hw := cW_ok hw
      exact ⟨_, (acc596 ++ [acc681]), _, (L599 ++ (D618 :: L684)), (Same.trans eG595 eG680), (S695.sub (all_cons (.tail _ (List.mem_append_right _ (.head _))) (all_app (all_app ((fun b hb => (.tail _ (List.mem_append_right _ (.tail _ (List.mem_append_left _ hb))))) : ∀ b ∈ L599, b ∈ (D618 :: (L684 ++ (D568 :: (L599 ++ []))))) (all_cons (.head _) ((fun b hb => (.tail _ (List.mem_append_left _ hb))) : ∀ b ∈ L684, b ∈ (D618 :: (L684 ++ (D568 :: (L599 ++ []))))))) all_nil))), h694, (OwAll.mono (Same.refl _) (keeps_mut x693 ((all_app nd601 (all_cons (ne_of_none h593 n619).symm (new_ne2 nb685 (S592.ow _ (.head _)).2.1))) : ∀ b ∈ (L599 ++ (D618 :: L684)), b ≠ D568)) (OwAll.snocM w689 (Ow.list h678 d683 (nd686 : ∀ b ∈ L684, b ≠ D618)) ((fun b hb => (nm_cons ((there_ne (fun b_ hb_ => (S592.ow b_ (((fun b hb => (.tail _ (List.mem_append_left _ hb))) : ∀ b ∈ L599, b ∈ (D568 :: (L599 ++ []))) b_ hb_)).2.1) n619) b hb) ((nl_symm (new_nl nb685 (fun b_ hb_ => (S592.ow b_ (((fun b hb => (.tail _ (List.mem_append_left _ hb))) : ∀ b ∈ L599, b ∈ (D568 :: (L599 ++ []))) b_ hb_)).2.1))) b hb))) : ∀ b ∈ L599, b ∉ (D618 :: L684)))), ((all_app nb600 (all_cons (none_of_same eo602 n619) (fun b hb => none_of_same eo602 (nb685 b hb)))) : ∀ b ∈ (L599 ++ (D618 :: L684)), H552 b = none), ((all_app nd601 (all_cons (ne_of_none h593 n619).symm (new_ne2 nb685 (S592.ow _ (.head _)).2.1))) : ∀ b ∈ (L599 ++ (D618 :: L684)), b ≠ D568), (same_mut (Same.trans eo602 eo687) x693 n569), hw⟩
    intro H696 hw
    obtain ⟨G699, acc701, vs702, L704, eG700, S697, h698, d703, nb705, nd706, eo707, hw⟩ := hw
    have hw := hK567 _ (cW_mapA0 (by rw [(RpAll.mono eG700 d564).len, List.length_map]) hw)
    have fr708 := S560.free n569
    have hw := cW_ok hw
    exact hK0 _ hw _ _ _ _ _ fr708 ((fun b hb => Sep.h0 S697 (((fun b hb => (.tail _ (List.mem_append_left _ hb))) : ∀ b ∈ L704, b ∈ (D568 :: (L704 ++ []))) b hb) nm_nil) : ∀ b ∈ L704, H b = none) (nd706 : ∀ b ∈ L704, b ≠ D568) S697.b0 S697.g0 S697.sG S697.gn (S697.ow _ (.head _)).1 ((fun b hb => (S697.ow b (((fun b hb => (.tail _ (List.mem_append_left _ hb))) : ∀ b ∈ L704, b ∈ (D568 :: (L704 ++ []))) b hb)).1) : ∀ b ∈ L704, G699 b = none) h698 d703

abbrev N__law_refused : List Str := ["fmt", "size", "count", "e"]
theorem sc__law_refused : FnScope N__law_refused ["fmt", "size"] (defScope s__law_refused) := ⟨rfl, rfl, rfl, by decide +kernel, rfl, by decide +kernel, by decide +kernel⟩
theorem ok__law_refused (D : DefX K mg "_law_refused" s__law_refused ["fmt", "size"] pats__law_refused) (T : Txt K mg AD) (c_level_shape : CalX P w K mg base 3 "level_shape" (sp_level_shape K AD) pats_level_shape) (c_zero_levels : CalX P w K mg base 4 "zero_levels" (sp_zero_levels K AD) pats_zero_levels) : CalX P w K mg base 5 "_law_refused" (sp__law_refused K AD) pats__law_refused := by
  refine D.ok sc__law_refused (fun vs H Q E h => ?_) (fun f cdv A_ outer s H vs Q E hr h => ?_)
  · obtain ⟨G, p_fmt, dx_fmt, fmt', size', rfl, _⟩ := h
    rfl
  · obtain ⟨G, p_fmt, dx_fmt, fmt', size', rfl, sG, h_p_fmt, hw⟩ := h
    refine ⟨_, (pss_cons (ps_set (i := 2) sc__law_refused.nd rfl (Or.inl rfl) pe_int)
      (C8.pss_cut (ps_try_as (i := 3) rfl rfl sc__law_refused.nd rfl rfl ⟨rfl, by decide, .inl T.xg_OutOfRange⟩ (takes_of rfl rfl rfl rfl) (fun W pn xe tk pse => (pss_one (ps_expr (vx_callX c_level_shape pat_level_shape_0 (.head _) hr (by decide) tk rfl (pa_cons (pv 0) (pa_cons (pv 1) pa_nil)) pk_nil)))) (fun a oe cls d pn hz hf => (pss_one (ps_set (i := 2) sc__law_refused.nd rfl (Or.inl rfl) (pe_op op_add (pv 2) (pe_callTy call_int1 (by rfl) T.b_int (by decide +kernel) (pa_cons (pe_and (pe_callB (call_isX (K := K) hz hf) (by rfl) T.b_isinstance (by decide +kernel) (pa_cons (pv 3) (pa_cons (C8.pe_gc (v := V.ref AD.x_CodecError) rfl ⟨_, T.xg_CodecError, rfl⟩) pa_nil))) (pe_one (pe_not (pe_callB (call_isX (K := K) hz hf) (by rfl) T.b_isinstance (by decide +kernel) (pa_cons (pv 3) (pa_cons (C8.pe_gc (v := V.ref AD.x_BadData) rfl ⟨_, T.xg_BadData, rfl⟩) pa_nil)))))) pa_nil)))))))
      (C8.pss_cut (ps_try_as (i := 3) rfl rfl sc__law_refused.nd rfl rfl ⟨rfl, by decide, .inl T.xg_OutOfRange⟩ (takes_of rfl rfl rfl rfl) (fun W pn xe tk pse => (pss_one (ps_expr (vx_callX c_zero_levels pat_zero_levels_0 (.head _) hr (by decide) tk rfl (pa_cons (pv 0) (pa_cons (pv 1) pa_nil)) pk_nil)))) (fun a oe cls d pn hz hf => (pss_one (ps_set (i := 2) sc__law_refused.nd rfl (Or.inl rfl) (pe_op op_add (pv 2) (pe_callTy call_int1 (by rfl) T.b_int (by decide +kernel) (pa_cons (pe_callB (call_isX (K := K) hz hf) (by rfl) T.b_isinstance (by decide +kernel) (pa_cons (pv 3) (pa_cons (C8.pe_gc (v := V.ref AD.x_CodecError) rfl ⟨_, T.xg_CodecError, rfl⟩) pa_nil))) pa_nil)))))))
      (pss_one (ps_ret (pe_cmp (pc_eqI (pv 2) pe_int))))))), ?_⟩
    obtain ⟨KK, EE, hK0, hE, hw⟩ := cW_gen hw
    have S0 := Sep.startG sG
    unfold F__law_refused at hw
    refine ⟨fun σ H' => ∃ (count_712 : Int) (u713 : Option V) (G' : Hp), σ = [some (V.ref p_fmt), some (V.int (size')), some (V.int count_712), u713] ∧ Same G G' ∧ Sep [] H G G' H' [] ∧ cW (F__law_refused_k1 (fmt') (size') count_712) KK EE, ?_, ?_⟩
    · obtain ⟨K714, hK715, hw⟩ := cW_push hw
      refine ⟨_, rfl, _, rfl, rfl, rfl, G, _, _, fmt', _, rfl, S0.sG, (hide_nil (S0.bM _ _ h_p_fmt)), cW_try hw (fun v716 hw v719 H717 G720 e718 eG721 sG722 hn723 r724 => ?_) ?_⟩
      · have S725 := S0.step e718 eG721 sG722 hn723
        obtain ⟨a726, vs727, rfl, h728, d729⟩ := rp_list r724
        have hw := cW_ok hw
        have hw := hK715 _ hw
        exact ⟨(0), _, _, rfl, eG721, S725, hw⟩
      · intro e hm hw H730 e731
        have S732 := S0.same e731
        obtain rfl := mem_one hm
        refine ⟨true, T.xm_OutOfRange_OutOfRange, fun _ a733 na734 => ?_, fun q => nomatch q⟩
        refine ⟨_, rfl, ?_⟩
        refine vv_and  (a := true) (b := (!false)) ?ha735 ?hb736 _ ?_
        case ha735 => exact (vv_call2 (val_var rfl) val_c (fun Q q => ⟨_, _, _, rfl, rfl, T.xc_OutOfRange, rfl, T.xo_OutOfRange_CodecError, q⟩))
        case hb736 => exact (vv_not (vv_call2 (val_var rfl) val_c (fun Q q => ⟨_, _, _, rfl, rfl, T.xc_OutOfRange, rfl, T.xn_OutOfRange_BadData, q⟩)))
        refine .inr ⟨_, rfl, ?_⟩
        refine ⟨_, _, rfl, rfl, ?_⟩
        have hw := cW_bnd hw
        have hw := cW_ok hw
        have hw := hK715 _ hw
        exact ⟨((0 + (if (true && (!false)) = true then 1 else 0))), _, _, rfl, (Same.refl _), S732, hw⟩
    · intro σ H738 hw
      obtain ⟨count_712, u713, G740, rfl, eG741, S739, hw⟩ := hw
      unfold F__law_refused_k1 at hw
      refine ⟨fun σ H' => ∃ (count_743 : Int) (u744 : Option V) (G' : Hp), σ = [some (V.ref p_fmt), some (V.int (size')), some (V.int count_743), u744] ∧ Same G740 G' ∧ Sep [] H G G' H' [] ∧ cW (F__law_refused_k2  count_743) KK EE, ?_, ?_⟩
      · obtain ⟨K745, hK746, hw⟩ := cW_push hw
        refine ⟨_, rfl, _, rfl, rfl, rfl, G740, _, _, fmt', _, rfl, S739.sG, (hide_nil (S739.bM _ _ h_p_fmt)), cW_try hw (fun v747 hw H748 a750 vs751 L752 G753 n754 nb755 nd756 e749 eG757 sG758 hn759 ga760 gL761 h762 w763 => ?_) ?_⟩
        · have fr764 := S739.free n754
          have S765 : Sep _ _ _ _ H748 (a750 :: (L752 ++ [])) := Sep.steptree S739 e749 eG757 sG758 hn759 (a750 :: L752) (all_cons ⟨n754, ga760, some_ne h762⟩ (fun b hb => ⟨nb755 b hb, gL761 b hb, OwAll.there w763 b hb⟩))
          have hw := cW_ok hw
          have hw := hK746 _ hw
          exact ⟨(count_712), _, _, rfl, eG757, (S765.sub all_nil), hw⟩
        · intro e hm hw H766 e767
          have S768 := S739.same e767
          obtain rfl := mem_one hm
          refine ⟨true, T.xm_OutOfRange_OutOfRange, fun _ a769 na770 => ?_, fun q => nomatch q⟩
          refine ⟨_, rfl, _, rfl, _, _, _, rfl, rfl, T.xc_OutOfRange, rfl, T.xo_OutOfRange_CodecError, .inr ⟨_, rfl, ?_⟩⟩
          refine ⟨_, _, rfl, rfl, ?_⟩
          have hw := cW_bnd hw
          have hw := cW_ok hw
          have hw := hK746 _ hw
          exact ⟨((count_712 + (if true = true then 1 else 0))), _, _, rfl, (Same.refl _), S768, hw⟩
      · intro σ H772 hw
        obtain ⟨count_743, u744, G774, rfl, eG775, S773, hw⟩ := hw
        unfold F__law_refused_k2 at hw
        refine ⟨_, rfl, _, _, rfl, rfl, ?_⟩
        have hw := cW_ok hw
        exact hK0 _ hw _ S773.b0

abbrev N_law : List Str := ["script", "draws", "fmt", "size", "due", "told", "levels", "actual", "plane", "place", "spoilt", "shape", "j"]
theorem sc_law : FnScope N_law ["script"] (defScope s_law) := ⟨rfl, rfl, rfl, by decide +kernel, rfl, by decide +kernel, by decide +kernel⟩
theorem ok_law {f : Addr} {fd : FuncData} (F : FunD K "law" "law" (defArgs s_law) (defBody s_law) (defScope s_law) [] [] f fd) (T : Txt K mg AD) (c__law_draws : CalX P w K mg base 1 "_law_draws" (sp__law_draws K AD) pats__law_draws) (c__law_cell : CalX P w K mg base 1 "_law_cell" (sp__law_cell K AD) pats__law_cell) (c_Format___init__ : MakX P w K mg base 1 "Format" AD.c_Format (sp_Format___init__ K AD) pats_Format___init__) (c__law_shape : CalX P w K mg base 1 "_law_shape" (sp__law_shape K AD) pats__law_shape) (c_level_shape : CalX P w K mg base 3 "level_shape" (sp_level_shape K AD) pats_level_shape) (c_zero_levels : CalX P w K mg base 4 "zero_levels" (sp_zero_levels K AD) pats_zero_levels) (c__law_refused : CalX P w K mg base 5 "_law_refused" (sp__law_refused K AD) pats__law_refused) : FnG P w K mg base CX0 6 f fd ["script"] (sp_law K AD) := by
  refine FnG.bodyN F sc_law (fun vs H Q E h => ?_) (fun cdv A_ outer s H vs Q E hr h => ?_)
  · obtain ⟨a_script, script, rfl, _⟩ := h
    rfl
  · obtain ⟨a_script, script', rfl, q_script, hw, k⟩ := h
    refine ⟨_, (pss_cons (ps_set (i := 1) sc_law.nd rfl (Or.inl rfl) (vx_callX c__law_draws pat__law_draws_0 (.head _) hr (by decide) takes0 rfl (pa_cons (vx_callX c__law_cell pat__law_cell_0 (.head _) hr (by decide) takes0 rfl (pa_cons (pv 0) (pa_cons pe_int pa_nil)) pk_nil) (pa_cons (pe_lst (pa_cons pe_int (pa_cons pe_int (pa_cons pe_int (pa_cons pe_int (pa_cons pe_int (pa_cons pe_int (pa_cons pe_int (pa_cons pe_int pa_nil))))))))) pa_nil)) pk_nil))
      (pss_cons (ps_set (i := 2) sc_law.nd rfl (Or.inl rfl) (vx_makeX c_Format___init__ pat_Format___init___0 (.head _) hr (by decide) takes0 rfl (pa_cons (pe_op op_add pe_int (pe_ix (ix_listK (K := K)) (pv 1) pe_int (fun _ _ => rfl))) (pa_cons (pe_op op_add pe_int (pe_ix (ix_listK (K := K)) (pv 1) pe_int (fun _ _ => rfl))) pa_nil)) (pk_cons (pe_op op_add pe_int (pe_ix (ix_listK (K := K)) (pv 1) pe_int (fun _ _ => rfl))) (pk_cons (pe_ix (ix_listK (K := K)) (pv 1) pe_int (fun _ _ => rfl)) pk_nil))))
      (pss_cons (ps_for PassesOwn.never rfl (pi_listK (K := K) (pe_lst (pa_cons pe_int (pa_cons pe_int pa_nil)))) (pg_name (i := 3) sc_law.nd rfl (Or.inl rfl)) (pss_cons (ps_set (i := 4) sc_law.nd rfl (Or.inl rfl) (vx_callX c__law_shape pat__law_shape_0 (.head _) hr (by decide) takes0 rfl (pa_cons (pe_ix (ix_listK (K := K)) (pv 1) pe_int (fun _ _ => rfl)) (pa_cons (pv 3) pa_nil)) pk_nil))
      (pss_cons (ps_set (i := 5) sc_law.nd rfl (Or.inl rfl) (vx_callX c_level_shape pat_level_shape_0 (.head _) hr (by decide) takes0 rfl (pa_cons (pv 2) (pa_cons (pv 3) pa_nil)) pk_nil))
      (pss_cons (ps_if (PW.pt (pw_or (pt_not (pt_val (pe_callB call_isi (by rfl) T.b_isinstance (by decide +kernel) (pa_cons (pv 5) (pa_cons (pe_bltn (v := V.ty "list") (u := Value.type "list") (by rfl) T.b_list (by decide +kernel) rfl) pa_nil))))) (pw_or1 (pt_cmpR (op_neT (encOk_L (encOk_T2 encOk_int encOk_int)) hr.units) (pv 5) (pv 4) (nomark _))))) (pss_one (ps_ret pe_bl)) pss_nil)
      (pss_cons (ps_setLc (i := 6) (y := "levels") rfl sc_law.nd rfl rfl (sw_true rfl rfl rfl (by decide +kernel)) (own := [("shape", 11)]) (g := gName 11) (pi_listK (K := K) (pv 4)) (blkOk_by (own := [("shape", 11)]) (N := N_law) (sc := defScope s_law) (by decide +kernel)) (fun _ _ _ _ _ => (pg_name (i := 11) sc_law.nd rfl (Or.inr rfl))) (fun _ _ _ _ _ => pts_nil) (fun _ _ _ _ _ => (pe_lc (own := [("j", 12)]) (g := gName 12) (by rfl) sc_law.nd (pi_range1 rfl T.b_range (pa_cons (pe_ix (ix_tupK (K := K)) (pv 11) pe_int (fun _ _ => rfl)) pa_nil)) (blk_relabel (blkOk_by (own := [("j", 12)]) (N := N_law) (by decide +kernel))) (fun _ _ _ _ _ => (pg_name (i := 12) sc_law.nd rfl (Or.inl rfl))) (fun _ _ _ _ _ => pts_nil) (fun _ _ _ _ _ => (pe_op op_rep (pe_lst (pa_cons pe_int pa_nil)) (pe_ix (ix_tupK (K := K)) (pv 11) pe_int (fun _ _ => rfl)))))))
      (pss_cons (ps_set (i := 7) sc_law.nd rfl (Or.inl rfl) (vx_callX c_zero_levels pat_zero_levels_0 (.head _) hr (by decide) takes0 rfl (pa_cons (pv 2) (pa_cons (pv 3) pa_nil)) pk_nil))
      (pss_cons (ps_if (pt_cmpR (op_neT (encOk_L (encOk_L (encOk_L encOk_int))) hr.units) (pv 7) (pv 6) (nomark _)) (pss_one (ps_ret pe_bl)) pss_nil)
      (pss_cons (ps_set (i := 8) sc_law.nd rfl (Or.inl rfl) (pe_op op_mod (pe_callTy call_int1 (by rfl) T.b_int (by decide +kernel) (pa_cons (pe_ix (ix_listK (K := K)) (pv 1) pe_int (fun _ _ => rfl)) pa_nil)) (pe_callB (call_lenLK (K := K)) (by rfl) T.b_len (by decide +kernel) (pa_cons (pv 4) pa_nil))))
      (pss_cons (ps_set (i := 9) sc_law.nd rfl (Or.inl rfl) (pe_tup (pa_cons (pe_op op_mod (pe_callTy call_int1 (by rfl) T.b_int (by decide +kernel) (pa_cons (pe_ix (ix_listK (K := K)) (pv 1) pe_int (fun _ _ => rfl)) pa_nil)) (pe_ix (ix_tupK (K := K)) (pe_ix (ix_listK (K := K)) (pv 4) (pv 8) (fun _ _ => rfl)) pe_int (fun _ _ => rfl))) (pa_cons (pe_op op_mod (pe_callTy call_int1 (by rfl) T.b_int (by decide +kernel) (pa_cons (pe_ix (ix_listK (K := K)) (pv 1) pe_int (fun _ _ => rfl)) pa_nil)) (pe_ix (ix_tupK (K := K)) (pe_ix (ix_listK (K := K)) (pv 4) (pv 8) (fun _ _ => rfl)) pe_int (fun _ _ => rfl))) pa_nil))))
      (pss_cons (ps_asg pe_int (pg_sub (pe_ix (ix_listK (K := K)) (pe_ix (ix_listK (K := K)) (pv 7) (pv 8) (fun _ _ => rfl)) (pe_ix (ix_tupK (K := K)) (pv 9) pe_int (fun _ _ => rfl)) (fun _ _ => rfl)) (pe_ix (ix_tupK (K := K)) (pv 9) pe_int (fun _ _ => rfl)) set_list))
      (pss_cons (ps_setLc (i := 10) (y := "spoilt") rfl sc_law.nd rfl rfl (sw_true rfl rfl rfl (by decide +kernel)) (own := [("shape", 11)]) (g := gName 11) (pi_listK (K := K) (pv 4)) (blkOk_by (own := [("shape", 11)]) (N := N_law) (sc := defScope s_law) (by decide +kernel)) (fun _ _ _ _ _ => (pg_name (i := 11) sc_law.nd rfl (Or.inr rfl))) (fun _ _ _ _ _ => pts_nil) (fun _ _ _ _ _ => (pe_lc (own := [("j", 12)]) (g := gName 12) (by rfl) sc_law.nd (pi_range1 rfl T.b_range (pa_cons (pe_ix (ix_tupK (K := K)) (pv 11) pe_int (fun _ _ => rfl)) pa_nil)) (blk_relabel (blkOk_by (own := [("j", 12)]) (N := N_law) (by decide +kernel))) (fun _ _ _ _ _ => (pg_name (i := 12) sc_law.nd rfl (Or.inl rfl))) (fun _ _ _ _ _ => pts_nil) (fun _ _ _ _ _ => (pe_op op_rep (pe_lst (pa_cons pe_int pa_nil)) (pe_ix (ix_tupK (K := K)) (pv 11) pe_int (fun _ _ => rfl)))))))
      (pss_cons (ps_asg pe_int (pg_sub (pe_ix (ix_listK (K := K)) (pe_ix (ix_listK (K := K)) (pv 10) (pv 8) (fun _ _ => rfl)) (pe_ix (ix_tupK (K := K)) (pv 9) pe_int (fun _ _ => rfl)) (fun _ _ => rfl)) (pe_ix (ix_tupK (K := K)) (pv 9) pe_int (fun _ _ => rfl)) set_list))
      (pss_cons (ps_if (pt_cmpR (op_neT (encOk_L (encOk_L (encOk_L encOk_int))) hr.units) (pv 7) (pv 10) (nomark _)) (pss_one (ps_ret pe_bl)) pss_nil)
      (pss_cons (ps_expr (pe_bm PySem.F.plainAttrs_list PySem.F.slot_list_append PySem.F.type_list_append mt_append (pe_ix (ix_listK (K := K)) (pv 7) (pe_un un_neg pe_int) (fun _ _ => rfl)) (pa_cons (pe_lst pa_nil) pa_nil)))
      (pss_one (ps_if (pt_cmpR (op_neT (encOk_L (encOk_L (encOk_L encOk_int))) hr.units) (vx_callX c_zero_levels pat_zero_levels_0 (.head _) hr (by decide) takes0 rfl (pa_cons (pv 2) (pa_cons (pv 3) pa_nil)) pk_nil) (pv 6) (nomark _)) (pss_one (ps_ret pe_bl)) pss_nil))))))))))))))))
      (pss_cons (ps_set (i := 3) sc_law.nd rfl (Or.inl rfl) (pe_op op_sub (pe_ix (ix_listK (K := K)) (pv 1) pe_int (fun _ _ => rfl)) pe_int))
      (pss_one (ps_ret (pe_or (pe_cmp (pc_eqI (pv 3) pe_int)) (pe_or (pe_cmp (pc_eqI (pv 3) pe_int)) (pe_one (vx_callX c__law_refused pat__law_refused_0 (.head _) hr (by decide) takes0 rfl (pa_cons (pv 2) (pa_cons (pv 3) pa_nil)) pk_nil)))))))))), ?_⟩
    obtain ⟨KK, EE, hK0, hE, hw⟩ := cW_gen hw
    have S0 := Sep.start0 H
    unfold F_law at hw
    refine ⟨_, rfl, rfl, rfl, H, _, _, _, rfl, S0.sG, (S0.b0.seq q_script), cW_call hw (fun v776 hw => ?_) (fun e he => (hE e he).elim)⟩
    refine ⟨(by show 8 ≤ sizeLine; decide), fun p777 n778 => ?_⟩
    generalize g779 : upd H p777 _ = H780
    obtain ⟨e781, h782⟩ := gen_new n778 g779
    have h783 : H780 p777 = some (.lst (([256, 256, 5, 3, 200, 3, 4, 64] : (List Int)).map V.int)) := h782
    have fr784 := S0.free n778
    have S785 := S0.new n778 e781 h783 fr784
    refine ⟨rfl, rfl, H, _, _, _, rfl, S785.sG, (hide_nil h783), cW_call hw (fun v786 hw p789 H787 n790 e788 h791 => ?_) (fun e he => (hE e he).elim)⟩
    have h792 : H787 p789 = some (.lst ((v786 : (List Int)).map V.int)) := h791
    have fr793 := S785.free n790
    have S794 := S785.new n790 e788 h792 fr793
    obtain ⟨g795, hw⟩ := cW_grd hw
    obtain ⟨g796, hw⟩ := cW_grd hw
    obtain ⟨g797, hw⟩ := cW_grd hw
    obtain ⟨g798, hw⟩ := cW_grd hw
    refine ⟨_, rfl, _, _, _, _, rfl, rfl, (SqL.of h792), (atI_map g795), _, _, rfl, rfl, _, rfl, _, _, _, _, rfl, rfl, (SqL.of h792), (atI_map g796), _, _, rfl, rfl, _, rfl, _, _, _, _, rfl, rfl, (SqL.of h792), (atI_map g797), _, _, rfl, rfl, _, rfl, _, _, _, _, rfl, rfl, (SqL.of h792), (atI_map g798), rfl, rfl, fun x799 dx800 n801 n802 n803 => ?_⟩
    generalize g804 : upd (upd H787 dx800 _) x799 _ = H805
    obtain ⟨e806, h807⟩ := gen_obj n801 n802 n803 g804
    have fr808 := S794.free n801
    have S809 := S794.new n801 e806 h807 fr808
    refine ⟨H, _, _, _, _, _, _, rfl, S809.sG, (S809.gno (all_cons (.head _) all_nil)), h807, cW_call hw (fun v810 hw H811 x812 h813 => ⟨rfl, ?_⟩) (fun e he => (hE e he).elim)⟩
    have S814 : Sep _ _ _ _ H811 [x799, p789, p777] := Sep.init S809 x812 (.head _) h813 [] all_nil
    refine ⟨(by show 2 ≤ sizeLine; decide), fun p815 n816 => ?_⟩
    generalize g817 : upd H811 p815 _ = H818
    obtain ⟨e819, h820⟩ := gen_new n816 g817
    have h821 : H818 p815 = some (.lst (([4, 8] : (List Int)).map V.int)) := h820
    have fr822 := S814.free n816
    have S823 := S814.new n816 e819 h821 fr822
    obtain ⟨K828, hK829, hw⟩ := cW_push hw
    refine ⟨_, rfl, ⟨_, (SqL.of h821)⟩, for_list (K := K) (a := p815) (xs := ([4, 8] : (List Int)).map V.int) (fun i σ H' => ∃ (u830 : Option V) (u831 : Option V) (u832 : Option V) (u833 : Option V) (u834 : Option V) (u835 : Option V) (u836 : Option V) (u837 : Option V) (G' : Hp), σ = [some (V.ref a_script), some (V.ref p789), some (V.ref x799), u830, u831, u832, u833, u834, u835, u836, u837, none, none] ∧ Same H G' ∧ Sep [] H H G' H' [p789, x799, p815] ∧ H' p789 = some (.lst ((v786 : (List Int)).map V.int)) ∧ H' x799 = some (.ins AD.c_Format dx800 [("width", V.int (v810.width)), ("height", V.int (v810.height)), ("depth", V.int (v810.depth)), ("chroma", V.int (v810.chroma))]) ∧ H' p815 = some (.lst (([4, 8] : (List Int)).map V.int)) ∧ cW (forR (List.drop i ([4, 8])) () (fun s x => F_law_b1 (v786) (v810)  x)) K828 EE) ?_ ?_ ?_ ?_⟩
    · have h838 := (e819 _ _ ((SameXs.of x812) _ _ (e806 _ _ h792) (ni1 (ne_of_none h792 n801))))
      have h839 := (e819 _ _ h813)
      exact ⟨_, _, _, _, _, _, _, _, _, rfl, (Same.refl _), (S823.sub (all_cons (.tail _ (.tail _ (.head _))) (all_cons (.tail _ (.head _)) (all_cons (.head _) all_nil)))), h838, h839, h821, hw⟩
    · intro i σ H840 _ hw
      obtain ⟨u830, u831, u832, u833, u834, u835, u836, u837, G845, rfl, eG846, S841, h842, h843, h844, hw⟩ := hw
      exact (SqL.of h844)
    · intro i x σ H847 hj hw
      obtain ⟨u830, u831, u832, u833, u834, u835, u836, u837, G852, rfl, eG853, S848, h849, h850, h851, hw⟩ := hw
      obtain ⟨x854, hx, rfl⟩ := map_get hj
      have hw := cW_forR hx hw
      have hw : cW (F_law_b1 (v786) (v810)  (x854)) _ EE := hw
      unfold F_law_b1 at hw
      obtain ⟨K855, hK856, hw⟩ := cW_name hw
      obtain ⟨g858, hw⟩ := cW_grd hw
      refine ⟨_, rfl, _, _, _, _, rfl, rfl, (SqL.of h849), (atI_map g858), _, rfl, rfl, rfl, G852, _, _, rfl, S848.sG, cW_call hw (fun v859 hw v862 H860 G863 e861 eG864 sG865 hn866 r867 => ?_) (fun e he => (hE e he).elim)⟩
      have S868 := S848.step e861 eG864 sG865 hn866
      obtain ⟨a869, vs870, rfl, h871, d872⟩ := rp_list r867
      have h873 := (e861 _ _ h850)
      refine ⟨_, rfl, _, rfl, rfl, rfl, G863, _, _, v810, _, rfl, S868.sG, (hide_nil h873), cW_call hw (fun v874 hw v877 H875 G878 e876 eG879 sG880 hn881 r882 => ?_) (fun e he => (hE e he).elim)⟩
      have S883 := S868.step e876 eG879 sG880 hn881
      obtain ⟨a884, vs885, rfl, h886, d887⟩ := rp_list r882
      refine ⟨_, rfl, _, _, _, _, _, rfl, (.ty _), (.base (.lst (S883.sG _ _ h886))), rfl, _, rfl, ?_⟩
      refine iteF ?_
      refine ⟨_, rfl, _, rfl, _, _, (rp_mk_list (S883.sG _ _ h886) (RpAll.mono S883.sG d887)), (rp_mk_list (S883.sG _ _ (eG879 _ _ h871)) (RpAll.mono S883.sG (RpAll.mono eG879 d872))), _, rfl, ?_⟩
      refine iteN (fun c888 => ?_) (fun c888 => ?_)
      · have hw := cW_neg c888 hw
        have hw := cW_ok hw
        have hw := hK856 (.rt _) hw
        have hw := hK829 (.rt _) hw
        have hw := cW_ok hw
        exact eq_bl (k _) (hK0 _ hw).symm
      · have hw := cW_pos c888 hw
        obtain ⟨K890, hK891, hw⟩ := cW_push hw
        refine ⟨_, rfl, _, rfl, ⟨_, (SqL.of (S883.sG _ _ (eG879 _ _ h871)))⟩, fun D892 n893 => lc_list (K := K) (a := a869) (xs := vs870) (fun i H' => ∃ (G' : Hp) (acc895 : (List (List (List Int)))) (vs896 : List V) (L894 : List Addr), Same G878 G' ∧ Sep [] H H G' H' (D892 :: (L894 ++ (p789 :: (x799 :: (p815 :: []))))) ∧ H' p789 = some (.lst ((v786 : (List Int)).map V.int)) ∧ H' x799 = some (.ins AD.c_Format dx800 [("width", V.int (v810.width)), ("height", V.int (v810.height)), ("depth", V.int (v810.depth)), ("chroma", V.int (v810.chroma))]) ∧ H' p815 = some (.lst (([4, 8] : (List Int)).map V.int)) ∧ H' D892 = some (.lst vs896) ∧ OwAll G' H' L894 vs896 ((acc895 : (List (List (List Int)))).map (oL (oL oI))) ∧ (∀ b ∈ L894, H875 b = none) ∧ (∀ b ∈ L894, b ≠ D892) ∧ Same H875 H' ∧ cW (mapA (List.drop i (v859)) acc895 (fun x => noEr (F_law_c2  x))) K890 EE) ?_ ?_ ?_ ?_⟩
        · generalize g897 : upd H875 D892 _ = H898
          obtain ⟨e899, h900⟩ := gen_new n893 g897
          have fr901 := S883.free n893
          have S902 := S883.new n893 e899 h900 fr901
          have h903 := (e899 _ _ (e876 _ _ (e861 _ _ h849)))
          have h904 := (e899 _ _ (e876 _ _ h873))
          have h905 := (e899 _ _ (e876 _ _ (e861 _ _ h851)))
          exact ⟨_, [], [], [], Same.refl _, (S902.sub (all_cons (.head _) (all_app (L := []) all_nil (all_cons (.tail _ (.head _)) (all_cons (.tail _ (.tail _ (.head _))) (all_cons (.tail _ (.tail _ (.tail _ (.head _)))) all_nil)))))), h903, h904, h905, h900, OwAll.nil, all_nil, all_nil, e899, hw⟩
        · intro i H906 _ hw
          obtain ⟨G909, acc911, vs912, L914, eG910, S907, h918, h919, h920, h908, d913, nb915, nd916, eo917, hw⟩ := hw
          exact (SqL.of (S907.sG _ _ (eG910 _ _ (eG879 _ _ h871))))
        · intro i x H921 hj hw
          obtain ⟨G924, acc926, vs927, L929, eG925, S922, h933, h934, h935, h923, d928, nb930, nd931, eo932, hw⟩ := hw
          obtain ⟨x936, hx, r937⟩ := RpAll.get (RpAll.mono eG925 (RpAll.mono eG879 d872)) hj
          obtain ⟨a938, v940, v941, rfl, h939, r942, r943⟩ := rp_tup2 r937
          obtain rfl := rp_int r942
          obtain rfl := rp_int r943
          obtain ⟨z944, hw⟩ := cW_mapA hx hw
          have hw := cW_noEr hw
          have hw : cW (F_law_c2  (x936)) _ (fun _ => False) := hw
          unfold F_law_c2 at hw
          refine ⟨rfl, ?_⟩
          refine tyes_go ?_
          obtain ⟨g946, hw⟩ := cW_grd hw
          obtain ⟨K949, hK950, hw⟩ := cW_push hw
          refine ⟨_, rfl, _, _, _, _, rfl, rfl, (SqT.of (S922.sG _ _ h939)), rfl, _, rfl, g946.1, g946.2, fun D951 n952 => lc_range (lo := 0) (n := Int.toNat (x936.1)) (fun i2 H' => ∃ (G' : Hp) (acc954 : (List (List Int))) (vs955 : List V) (L953 : List Addr), Same G924 G' ∧ Sep [] H H G' H' (D951 :: (L953 ++ (D892 :: (p789 :: (x799 :: (p815 :: (L929 ++ []))))))) ∧ H' D892 = some (.lst (vs927)) ∧ H' p789 = some (.lst ((v786 : (List Int)).map V.int)) ∧ H' x799 = some (.ins AD.c_Format dx800 [("width", V.int (v810.width)), ("height", V.int (v810.height)), ("depth", V.int (v810.depth)), ("chroma", V.int (v810.chroma))]) ∧ H' p815 = some (.lst (([4, 8] : (List Int)).map V.int)) ∧ H' D951 = some (.lst vs955) ∧ OwAll G' H' L929 (vs927) ((acc926 : (List (List (List Int)))).map (oL (oL oI))) ∧ OwAll G' H' L953 vs955 ((acc954 : (List (List Int))).map (oL oI)) ∧ (∀ b ∈ L953, H921 b = none) ∧ (∀ b ∈ L953, b ≠ D951) ∧ Same H921 H' ∧ cW (mapA (List.drop i2 (rng (0) (Int.toNat (x936.1)))) acc954 (fun x => noEr (F_law_c3 (x936) x))) K949 (fun _ => False)) ?_ ?_ ?_⟩
          · generalize g956 : upd H921 D951 _ = H957
            obtain ⟨e958, h959⟩ := gen_new n952 g956
            have fr960 := S922.free n952
            have S961 := S922.new n952 e958 h959 fr960
            have h962 := (e958 _ _ h923)
            have h963 := (e958 _ _ h933)
            have h964 := (e958 _ _ h934)
            have h965 := (e958 _ _ h935)
            have w966 : OwAll G924 H957 L929 (vs927) ((acc926 : (List (List (List Int)))).map (oL (oL oI))) := (OwAll.mono (Same.refl _) (keeps_same e958) d928)
            exact ⟨_, [], [], [], Same.refl _, (S961.sub (all_cons (.head _) (all_app (L := []) all_nil (all_cons (.tail _ (.head _)) (all_cons (.tail _ (.tail _ (List.mem_append_right _ (.head _)))) (all_cons (.tail _ (.tail _ (List.mem_append_right _ (.tail _ (.head _))))) (all_cons (.tail _ (.tail _ (List.mem_append_right _ (.tail _ (.tail _ (.head _)))))) (all_app ((fun b hb => (.tail _ (.tail _ (List.mem_append_left _ hb)))) : ∀ b ∈ L929, b ∈ (D951 :: (D892 :: (L929 ++ (p789 :: (x799 :: (p815 :: []))))))) all_nil)))))))), h962, h963, h964, h965, h959, w966, OwAll.nil, all_nil, all_nil, e958, hw⟩
          · intro i2 H967 hi hw
            obtain ⟨G970, acc972, vs973, L975, eG971, S968, h979, h980, h981, h982, h969, w983, d974, nb976, nd977, eo978, hw⟩ := hw
            obtain ⟨z984, hw⟩ := cW_mapA (rng_get hi) hw
            generalize (0 + (i2 : Int)) = x985 at hw ⊢
            have hw := cW_noEr hw
            have hw : cW (F_law_c3 (x936) (x985)) _ (fun _ => False) := hw
            unfold F_law_c3 at hw
            refine ⟨rfl, ?_⟩
            refine tyes_go ?_
            refine ⟨(by show 1 ≤ sizeLine; decide), fun p987 n988 => ?_⟩
            generalize g989 : upd H967 p987 _ = H990
            obtain ⟨e991, h992⟩ := gen_new n988 g989
            have h993 : H990 p987 = some (.lst (([0] : (List Int)).map V.int)) := h992
            have fr994 := S968.free n988
            have S995 := S968.new n988 e991 h993 fr994
            obtain ⟨g996, hw⟩ := cW_grd hw
            refine ⟨_, rfl, _, _, _, _, rfl, rfl, (SqT.of (S995.sG _ _ (eG971 _ _ h939))), rfl, _, _, _, rfl, rfl, h993, g996.1, g996.2.1, (rep_lenM g996.2.2), fun p997 n998 => ?_⟩
            generalize g999 : upd H990 p997 _ = H1000
            obtain ⟨e1001, h1002⟩ := gen_new n998 g999
            have h1003 : H1000 p997 = some (.lst ((repL ([0]) (x936.2) : (List Int)).map V.int)) := rep_map h1002
            have fr1004 := S995.free n998
            have S1005 := S995.new n998 e1001 h1003 fr1004
            have w1006 : OwAll G970 H1000 L975 (vs973) ((acc972 : (List (List Int))).map (oL oI)) := (OwAll.mono (Same.refl _) (keeps_same e1001) (OwAll.mono (Same.refl _) (keeps_same e991) d974))
            have h1007 := (e1001 _ _ (e991 _ _ h969))
            refine ⟨_, h1007, (app_len (OwAll.rpA w1006 (encO_L encO_I) S1005.sG) z984), ?_⟩
            generalize g1008 : upd H1000 D951 _ = H1009
            obtain ⟨x1010, h1011⟩ := gen_mut g1008
            have S1012 := S1005.mut1 x1010 (.tail _ (.tail _ (.head _))) h1011
            have hw := cW_ok hw
            have h1013 := (x1010 _ _ (e1001 _ _ (e991 _ _ h979)) (ne_of_none h923 n952))
            have h1014 := (x1010 _ _ (e1001 _ _ (e991 _ _ h980)) (ne_of_none h933 n952))
            have h1015 := (x1010 _ _ (e1001 _ _ (e991 _ _ h981)) (ne_of_none h934 n952))
            have h1016 := (x1010 _ _ (e1001 _ _ (e991 _ _ h982)) (ne_of_none h935 n952))
            have w1017 : OwAll G970 H1009 L929 (vs927) ((acc926 : (List (List (List Int)))).map (oL (oL oI))) := (OwAll.mono (Same.refl _) (keeps_mut x1010 ((there_ne (fun b_ hb_ => (S922.ow b_ (((fun b hb => (.tail _ (List.mem_append_left _ hb))) : ∀ b ∈ L929, b ∈ (D892 :: (L929 ++ (p789 :: (x799 :: (p815 :: [])))))) b_ hb_)).2.1) n952) : ∀ b ∈ L929, b ≠ D951)) (OwAll.mono (Same.refl _) (keeps_same e1001) (OwAll.mono (Same.refl _) (keeps_same e991) w983)))
            exact ⟨_, (acc972 ++ [repL ([0]) (x936.2)]), _, (L975 ++ (p997 :: ([] : List Addr))), eG971, (S1012.sub (all_cons (.tail _ (.tail _ (.head _))) (all_app (all_app ((fun b hb => (.tail _ (.tail _ (.tail _ (List.mem_append_left _ hb))))) : ∀ b ∈ L975, b ∈ (p997 :: (p987 :: (D951 :: (L975 ++ (D892 :: (p789 :: (x799 :: (p815 :: (L929 ++ [])))))))))) (all_cons (.head _) all_nil)) (all_cons (.tail _ (.tail _ (.tail _ (List.mem_append_right _ (.head _))))) (all_cons (.tail _ (.tail _ (.tail _ (List.mem_append_right _ (.tail _ (.head _)))))) (all_cons (.tail _ (.tail _ (.tail _ (List.mem_append_right _ (.tail _ (.tail _ (.head _))))))) (all_cons (.tail _ (.tail _ (.tail _ (List.mem_append_right _ (.tail _ (.tail _ (.tail _ (.head _)))))))) (all_app ((fun b hb => (.tail _ (.tail _ (.tail _ (List.mem_append_right _ (.tail _ (.tail _ (.tail _ (.tail _ (List.mem_append_left _ hb)))))))))) : ∀ b ∈ L929, b ∈ (p997 :: (p987 :: (D951 :: (L975 ++ (D892 :: (p789 :: (x799 :: (p815 :: (L929 ++ [])))))))))) all_nil)))))))), h1013, h1014, h1015, h1016, h1011, w1017, (OwAll.mono (Same.refl _) (keeps_mut x1010 ((all_app nd977 (all_cons (ne_of_none (e991 _ _ h969) n998).symm all_nil)) : ∀ b ∈ (L975 ++ (p997 :: ([] : List Addr))), b ≠ D951)) (OwAll.snocM w1006 (Ow.ints h1003) ((fun b hb => (nm_cons ((there_ne (fun b_ hb_ => (S995.ow b_ (((fun b hb => (.tail _ (.tail _ (List.mem_append_left _ hb)))) : ∀ b ∈ L975, b ∈ (p987 :: (D951 :: (L975 ++ (D892 :: (p789 :: (x799 :: (p815 :: (L929 ++ []))))))))) b_ hb_)).2.1) n998) b hb) nm_nil)) : ∀ b ∈ L975, b ∉ (p997 :: ([] : List Addr))))), ((all_app nb976 (all_cons (none_of_same (Same.trans eo978 e991) n998) all_nil)) : ∀ b ∈ (L975 ++ (p997 :: ([] : List Addr))), H921 b = none), ((all_app nd977 (all_cons (ne_of_none (e991 _ _ h969) n998).symm all_nil)) : ∀ b ∈ (L975 ++ (p997 :: ([] : List Addr))), b ≠ D951), (same_mut (Same.trans (Same.trans eo978 e991) e1001) x1010 n952), hw⟩
          intro H1018 hw
          obtain ⟨G1021, acc1023, vs1024, L1026, eG1022, S1019, h1030, h1031, h1032, h1033, h1020, w1034, d1025, nb1027, nd1028, eo1029, hw⟩ := hw
          have hw := hK950 _ (cW_mapA0 (rng_len _ _).symm hw)
          have fr1035 := S922.free n952
          refine ⟨_, h1030, (app_len (OwAll.rpA w1034 (encO_L (encO_L encO_I)) S1019.sG) z944), ?_⟩
          generalize g1036 : upd H1018 D892 _ = H1037
          obtain ⟨x1038, h1039⟩ := gen_mut g1036
          have S1040 := S1019.mut1 x1038 (.tail _ (List.mem_append_right _ (.head _))) h1039
          have hw := cW_ok hw
          have h1041 := (x1038 _ _ h1031 (ne_of_none (e876 _ _ (e861 _ _ h849)) n893))
          have h1042 := (x1038 _ _ h1032 (ne_of_none (e876 _ _ h873) n893))
          have h1043 := (x1038 _ _ h1033 (ne_of_none (e876 _ _ (e861 _ _ h851)) n893))
          exact ⟨_, (acc926 ++ [acc1023]), _, (L929 ++ (D951 :: L1026)), (Same.trans eG925 eG1022), (S1040.sub (all_cons (.tail _ (List.mem_append_right _ (.head _))) (all_app (all_app ((fun b hb => (.tail _ (List.mem_append_right _ (.tail _ (.tail _ (.tail _ (.tail _ (List.mem_append_left _ hb)))))))) : ∀ b ∈ L929, b ∈ (D951 :: (L1026 ++ (D892 :: (p789 :: (x799 :: (p815 :: (L929 ++ [])))))))) (all_cons (.head _) ((fun b hb => (.tail _ (List.mem_append_left _ hb))) : ∀ b ∈ L1026, b ∈ (D951 :: (L1026 ++ (D892 :: (p789 :: (x799 :: (p815 :: (L929 ++ [])))))))))) (all_cons (.tail _ (List.mem_append_right _ (.tail _ (.head _)))) (all_cons (.tail _ (List.mem_append_right _ (.tail _ (.tail _ (.head _))))) (all_cons (.tail _ (List.mem_append_right _ (.tail _ (.tail _ (.tail _ (.head _)))))) all_nil)))))), h1041, h1042, h1043, h1039, (OwAll.mono (Same.refl _) (keeps_mut x1038 ((all_app nd931 (all_cons (ne_of_none h923 n952).symm (new_ne2 nb1027 (S922.ow _ (.head _)).2.1))) : ∀ b ∈ (L929 ++ (D951 :: L1026)), b ≠ D892)) (OwAll.snocM w1034 (Ow.list h1020 d1025 (nd1028 : ∀ b ∈ L1026, b ≠ D951)) ((fun b hb => (nm_cons ((there_ne (fun b_ hb_ => (S922.ow b_ (((fun b hb => (.tail _ (List.mem_append_left _ hb))) : ∀ b ∈ L929, b ∈ (D892 :: (L929 ++ (p789 :: (x799 :: (p815 :: [])))))) b_ hb_)).2.1) n952) b hb) ((nl_symm (new_nl nb1027 (fun b_ hb_ => (S922.ow b_ (((fun b hb => (.tail _ (List.mem_append_left _ hb))) : ∀ b ∈ L929, b ∈ (D892 :: (L929 ++ (p789 :: (x799 :: (p815 :: [])))))) b_ hb_)).2.1))) b hb))) : ∀ b ∈ L929, b ∉ (D951 :: L1026)))), ((all_app nb930 (all_cons (none_of_same eo932 n952) (fun b hb => none_of_same eo932 (nb1027 b hb)))) : ∀ b ∈ (L929 ++ (D951 :: L1026)), H875 b = none), ((all_app nd931 (all_cons (ne_of_none h923 n952).symm (new_ne2 nb1027 (S922.ow _ (.head _)).2.1))) : ∀ b ∈ (L929 ++ (D951 :: L1026)), b ≠ D892), (same_mut (Same.trans eo932 eo1029) x1038 n893), hw⟩
        intro H1044 hw
        obtain ⟨G1047, acc1049, vs1050, L1052, eG1048, S1045, h1056, h1057, h1058, h1046, d1051, nb1053, nd1054, eo1055, hw⟩ := hw
        have hw := hK891 _ (cW_mapA0 (by rw [(RpAll.mono eG1048 (RpAll.mono eG879 d872)).len, List.length_map]) hw)
        have fr1059 := S883.free n893
        refine ⟨_, rfl, _, rfl, rfl, rfl, G1047, _, _, v810, _, rfl, S1045.sG, (hide_nil h1057), cW_call hw (fun v1060 hw H1061 a1063 vs1064 L1065 G1066 n1067 nb1068 nd1069 e1062 eG1070 sG1071 hn1072 ga1073 gL1074 h1075 w1076 => ?_) (fun e he => (hE e he).elim)⟩
        have fr1077 := S1045.free n1067
        have S1078 : Sep _ _ _ _ H1061 (a1063 :: (L1065 ++ (D892 :: (L1052 ++ (p789 :: (x799 :: (p815 :: []))))))) := Sep.steptree S1045 e1062 eG1070 sG1071 hn1072 (a1063 :: L1065) (all_cons ⟨n1067, ga1073, some_ne h1075⟩ (fun b hb => ⟨nb1068 b hb, gL1074 b hb, OwAll.there w1076 b hb⟩))
        have h1079 := (e1062 _ _ h1046)
        have w1080 : OwAll G1066 H1061 L1052 (vs1050) ((acc1049 : (List (List (List Int)))).map (oL (oL oI))) := (OwAll.mono eG1070 keeps_refl (OwAll.mono (Same.refl _) (keeps_same e1062) d1051))
        refine ⟨_, rfl, _, rfl, _, _, (rp_mk_list h1075 (OwAll.rpA w1076 (encO_L (encO_L encO_I)) S1078.sG)), (rp_mk_list h1079 (OwAll.rpA w1080 (encO_L (encO_L encO_I)) S1078.sG)), _, rfl, ?_⟩
        refine iteN (fun c1081 => ?_) (fun c1081 => ?_)
        · have hw := cW_neg c1081 hw
          have hw := cW_ok hw
          have hw := hK856 (.rt _) hw
          have hw := hK829 (.rt _) hw
          have hw := cW_ok hw
          exact eq_bl (k _) (hK0 _ hw).symm
        · have hw := cW_pos c1081 hw
          obtain ⟨g1082, hw⟩ := cW_grd hw
          have h1083 := (e1062 _ _ h1056)
          refine ⟨_, rfl, _, _, _, _, rfl, rfl, (SqL.of h1083), (atI_map g1082), .inl ⟨_, rfl, ?_⟩⟩
          obtain ⟨g1084, hw⟩ := cW_grd hw
          refine ⟨_, rfl, _, _, _, rfl, (SqL.of (S1078.sG _ _ (eG1070 _ _ (eG1048 _ _ (eG879 _ _ h871))))), (by rw [(RpAll.mono eG1070 (RpAll.mono eG1048 (RpAll.mono eG879 d872))).len, List.length_map]), _, _, rfl, rfl, g1084, ?_⟩
          have hw := cW_bnd hw
          obtain ⟨g1086, hw⟩ := cW_grd hw
          refine ⟨_, rfl, _, _, _, _, rfl, rfl, (SqL.of h1083), (atI_map g1086), .inl ⟨_, rfl, ?_⟩⟩
          obtain ⟨g1087, hw⟩ := cW_grd hw
          obtain ⟨v1088, a1089, r1090⟩ := RpAll.ixD (k := ((itD (v786) (5)) % (((v859) : (List (Int × Int))).length : Int))) (RpAll.mono eG1070 (RpAll.mono eG1048 (RpAll.mono eG879 d872))) g1087
          obtain ⟨a1091, v1093, v1094, rfl, h1092, r1095, r1096⟩ := rp_tup2 r1090
          obtain rfl := rp_int r1095
          obtain rfl := rp_int r1096
          obtain ⟨g1097, hw⟩ := cW_grd hw
          obtain ⟨g1098, hw⟩ := cW_grd hw
          refine ⟨_, rfl, _, rfl, _, _, _, _, rfl, rfl, (SqL.of (S1078.sG _ _ (eG1070 _ _ (eG1048 _ _ (eG879 _ _ h871))))), a1089, _, _, _, _, rfl, rfl, (SqT.of (S1078.sG _ _ h1092)), rfl, _, _, rfl, rfl, g1097, _, rfl, _, _, _, _, rfl, rfl, (SqL.of h1083), (atI_map g1098), .inl ⟨_, rfl, ?_⟩⟩
          obtain ⟨g1099, hw⟩ := cW_grd hw
          obtain ⟨v1100, a1101, r1102⟩ := RpAll.ixD (k := ((itD (v786) (5)) % (((v859) : (List (Int × Int))).length : Int))) (RpAll.mono eG1070 (RpAll.mono eG1048 (RpAll.mono eG879 d872))) g1099
          obtain ⟨a1103, v1105, v1106, rfl, h1104, r1107, r1108⟩ := rp_tup2 r1102
          obtain rfl := rp_int r1107
          obtain rfl := rp_int r1108
          obtain ⟨g1109, hw⟩ := cW_grd hw
          refine ⟨_, rfl, _, rfl, _, _, _, _, rfl, rfl, (SqL.of (S1078.sG _ _ (eG1070 _ _ (eG1048 _ _ (eG879 _ _ h871))))), a1101, _, _, _, _, rfl, rfl, (SqT.of (S1078.sG _ _ h1104)), rfl, _, _, rfl, rfl, g1109, (by show 2 ≤ sizeLine; decide), fun p1110 n1111 => ?_⟩
          generalize g1112 : upd H1061 p1110 _ = H1113
          obtain ⟨e1114, h1115⟩ := gen_new n1111 g1112
          have h1116 : H1113 p1110 = some (.tup [V.int (((itD (v786) (6)) % (itD (v859) (((itD (v786) (5)) % (((v859) : (List (Int × Int))).length : Int)))).1)), V.int (((itD (v786) (7)) % (itD (v859) (((itD (v786) (5)) % (((v859) : (List (Int × Int))).length : Int)))).2))]) := h1115
          have fr1117 := S1078.free n1111
          obtain ⟨G1119, eG1120, hg1121, S1118⟩ := S1078.grow n1111 e1114 h1116 fr1117
          obtain ⟨g1122, hw⟩ := cW_grd hw
          have w1123 : OwAll G1119 H1113 L1065 (vs1064) ((v1060 : (List (List (List Int)))).map (oL (oL oI))) := (OwAll.mono eG1120 keeps_refl (OwAll.mono (Same.refl _) (keeps_same e1114) w1076))
          obtain ⟨v1124, L1125, a1126, w1127, hs1128, up1129, gr1130⟩ := OwAll.partM (k := ((itD (v786) (5)) % (((v859) : (List (Int × Int))).length : Int))) w1123 g1122
          have h1131 := (e1114 _ _ h1075)
          obtain ⟨b1132, vs1133, L1134, rfl, rfl, h1135, w1136, nb1137⟩ := Ow.toList w1127
          obtain ⟨g1138, hw⟩ := cW_grd hw
          obtain ⟨v1139, L1140, a1141, w1142, hs1143, up1144, gr1145⟩ := OwAll.partM (k := ((itD (v786) (6)) % (itD (v859) (((itD (v786) (5)) % (((v859) : (List (Int × Int))).length : Int)))).1)) w1136 g1138
          obtain ⟨b1146, rfl, rfl, h1147⟩ := Ow.toInts w1142
          obtain ⟨g1148, hw⟩ := cW_grd hw
          refine ⟨_, rfl, _, rfl, _, _, _, _, rfl, rfl, (SqL.of h1131), a1126, _, rfl, _, _, _, _, rfl, rfl, (SqT.of (S1118.sG _ _ hg1121)), rfl, _, _, _, _, rfl, rfl, (SqL.of h1135), a1141, _, rfl, _, _, _, _, rfl, rfl, (SqT.of (S1118.sG _ _ hg1121)), rfl, _, _, _, _, rfl, rfl, h1147, (ixN_map g1148), ?_⟩
          generalize g1149 : upd H1113 b1146 _ = H1150
          obtain ⟨x1151, h1152⟩ := gen_mut g1149
          have h1153 : H1150 b1146 = some (.lst ((setL ((itD ((itD (v1060) (((itD (v786) (5)) % (((v859) : (List (Int × Int))).length : Int))))) (((itD (v786) (6)) % (itD (v859) (((itD (v786) (5)) % (((v859) : (List (Int × Int))).length : Int)))).1)))) (((itD (v786) (7)) % (itD (v859) (((itD (v786) (5)) % (((v859) : (List (Int × Int))).length : Int)))).2)) (5) : (List Int)).map V.int)) := set_map h1152
          have S1154 := S1118.mut1 x1151 (((fun b hb => (((fun b hb => (.tail _ (List.mem_append_left _ hb))) : ∀ b ∈ L1065, b ∈ (a1063 :: (L1065 ++ (D892 :: (L1052 ++ (p789 :: (x799 :: (p815 :: [])))))))) : ∀ b ∈ L1065, b ∈ (a1063 :: (L1065 ++ (D892 :: (L1052 ++ (p789 :: (x799 :: (p815 :: [])))))))) b ((fun c hc => hs1128 c (List.mem_cons_of_mem _ hc)) b hb)) : ∀ b ∈ L1134, b ∈ (a1063 :: (L1065 ++ (D892 :: (L1052 ++ (p789 :: (x799 :: (p815 :: [])))))))) _ (hs1143 _ List.mem_cons_self)) h1153
          have w1155 : OwAll G1119 H1150 L1134 (vs1133) ((setL ((itD (v1060) (((itD (v786) (5)) % (((v859) : (List (Int × Int))).length : Int))))) (((itD (v786) (6)) % (itD (v859) (((itD (v786) (5)) % (((v859) : (List (Int × Int))).length : Int)))).1)) (setL ((itD ((itD (v1060) (((itD (v786) (5)) % (((v859) : (List (Int × Int))).length : Int))))) (((itD (v786) (6)) % (itD (v859) (((itD (v786) (5)) % (((v859) : (List (Int × Int))).length : Int)))).1)))) (((itD (v786) (7)) % (itD (v859) (((itD (v786) (5)) % (((v859) : (List (Int × Int))).length : Int)))).2)) (5)) : (List (List Int))).map (oL oI)) := upd_tree up1144 x1151 List.mem_cons_self (Ow.ints h1153)
          have hw := cW_bnd hw
          have h1157 := (x1151 _ _ h1135 (nb1137 _ (hs1143 _ List.mem_cons_self)).symm)
          have w1158 : OwAll G1119 H1150 L1065 (vs1064) ((setL (v1060) (((itD (v786) (5)) % (((v859) : (List (Int × Int))).length : Int))) (setL ((itD (v1060) (((itD (v786) (5)) % (((v859) : (List (Int × Int))).length : Int))))) (((itD (v786) (6)) % (itD (v859) (((itD (v786) (5)) % (((v859) : (List (Int × Int))).length : Int)))).1)) (setL ((itD ((itD (v1060) (((itD (v786) (5)) % (((v859) : (List (Int × Int))).length : Int))))) (((itD (v786) (6)) % (itD (v859) (((itD (v786) (5)) % (((v859) : (List (Int × Int))).length : Int)))).1)))) (((itD (v786) (7)) % (itD (v859) (((itD (v786) (5)) % (((v859) : (List (Int × Int))).length : Int)))).2)) (5))) : (List (List (List Int)))).map (oL (oL oI))) := upd_tree up1129 x1151 (List.mem_cons_of_mem _ (hs1143 _ List.mem_cons_self)) (Ow.list h1157 w1155 (nb1137 : ∀ b ∈ L1134, b ≠ b1132))
          have hw := cW_bnd hw
          obtain ⟨K1161, hK1162, hw⟩ := cW_push hw
          refine ⟨_, rfl, _, rfl, ⟨_, (SqL.of (S1154.sG _ _ (eG1120 _ _ (eG1070 _ _ (eG1048 _ _ (eG879 _ _ h871))))))⟩, fun D1163 n1164 => lc_list (K := K) (a := a869) (xs := vs870) (fun i H' => ∃ (G' : Hp) (acc1166 : (List (List (List Int)))) (vs1167 : List V) (L1165 : List Addr), Same G1119 G' ∧ Sep [] H H G' H' (D1163 :: (L1165 ++ (D892 :: (a1063 :: (p789 :: (x799 :: (p815 :: (L1052 ++ (L1065 ++ []))))))))) ∧ H' D892 = some (.lst (vs1050)) ∧ H' a1063 = some (.lst (vs1064)) ∧ H' p789 = some (.lst ((v786 : (List Int)).map V.int)) ∧ H' x799 = some (.ins AD.c_Format dx800 [("width", V.int (v810.width)), ("height", V.int (v810.height)), ("depth", V.int (v810.depth)), ("chroma", V.int (v810.chroma))]) ∧ H' p815 = some (.lst (([4, 8] : (List Int)).map V.int)) ∧ H' D1163 = some (.lst vs1167) ∧ OwAll G' H' L1052 (vs1050) ((acc1049 : (List (List (List Int)))).map (oL (oL oI))) ∧ OwAll G' H' L1065 (vs1064) ((setL (v1060) (((itD (v786) (5)) % (((v859) : (List (Int × Int))).length : Int))) (setL ((itD (v1060) (((itD (v786) (5)) % (((v859) : (List (Int × Int))).length : Int))))) (((itD (v786) (6)) % (itD (v859) (((itD (v786) (5)) % (((v859) : (List (Int × Int))).length : Int)))).1)) (setL ((itD ((itD (v1060) (((itD (v786) (5)) % (((v859) : (List (Int × Int))).length : Int))))) (((itD (v786) (6)) % (itD (v859) (((itD (v786) (5)) % (((v859) : (List (Int × Int))).length : Int)))).1)))) (((itD (v786) (7)) % (itD (v859) (((itD (v786) (5)) % (((v859) : (List (Int × Int))).length : Int)))).2)) (5))) : (List (List (List Int)))).map (oL (oL oI))) ∧ OwAll G' H' L1165 vs1167 ((acc1166 : (List (List (List Int)))).map (oL (oL oI))) ∧ (∀ b ∈ L1165, H1150 b = none) ∧ (∀ b ∈ L1165, b ≠ D1163) ∧ Same H1150 H' ∧ cW (mapA (List.drop i (v859)) acc1166 (fun x => noEr (F_law_c4  x))) K1161 EE) ?_ ?_ ?_ ?_⟩
          · generalize g1168 : upd H1150 D1163 _ = H1169
            obtain ⟨e1170, h1171⟩ := gen_new n1164 g1168
            have fr1172 := S1154.free n1164
            have S1173 := S1154.new n1164 e1170 h1171 fr1172
            have h1174 := (e1170 _ _ (x1151 _ _ (e1114 _ _ h1079) ((((fun b hb => ((new_ne2 nb1068 (S1045.ow _ (.head _)).2.1) : ∀ b ∈ L1065, b ≠ D892) b ((fun c hc => hs1128 c (List.mem_cons_of_mem _ hc)) b hb)) : ∀ b ∈ L1134, b ≠ D892) _ (hs1143 _ List.mem_cons_self))).symm))
            have h1175 := (e1170 _ _ (x1151 _ _ h1131 ((((fun b hb => (nd1069 : ∀ b ∈ L1065, b ≠ a1063) b ((fun c hc => hs1128 c (List.mem_cons_of_mem _ hc)) b hb)) : ∀ b ∈ L1134, b ≠ a1063) _ (hs1143 _ List.mem_cons_self))).symm))
            have h1176 := (e1170 _ _ (x1151 _ _ (e1114 _ _ h1083) ((((fun b hb => ((new_ne2 nb1068 (S1045.ow _ (.tail _ (List.mem_append_right _ (.head _)))).2.1) : ∀ b ∈ L1065, b ≠ p789) b ((fun c hc => hs1128 c (List.mem_cons_of_mem _ hc)) b hb)) : ∀ b ∈ L1134, b ≠ p789) _ (hs1143 _ List.mem_cons_self))).symm))
            have h1177 := (e1170 _ _ (x1151 _ _ (e1114 _ _ (e1062 _ _ h1057)) ((((fun b hb => ((new_ne2 nb1068 (S1045.ow _ (.tail _ (List.mem_append_right _ (.tail _ (.head _))))).2.1) : ∀ b ∈ L1065, b ≠ x799) b ((fun c hc => hs1128 c (List.mem_cons_of_mem _ hc)) b hb)) : ∀ b ∈ L1134, b ≠ x799) _ (hs1143 _ List.mem_cons_self))).symm))
            have h1178 := (e1170 _ _ (x1151 _ _ (e1114 _ _ (e1062 _ _ h1058)) ((((fun b hb => ((new_ne2 nb1068 (S1045.ow _ (.tail _ (List.mem_append_right _ (.tail _ (.tail _ (.head _)))))).2.1) : ∀ b ∈ L1065, b ≠ p815) b ((fun c hc => hs1128 c (List.mem_cons_of_mem _ hc)) b hb)) : ∀ b ∈ L1134, b ≠ p815) _ (hs1143 _ List.mem_cons_self))).symm))
            have w1179 : OwAll G1119 H1169 L1052 (vs1050) ((acc1049 : (List (List (List Int)))).map (oL (oL oI))) := (OwAll.mono eG1120 keeps_refl (OwAll.mono (Same.refl _) (keeps_same e1170) (OwAll.mono (Same.refl _) (keeps_mut x1151 ((fun b hb z => (fun b hb => ((nl_symm (fun c hc => ((new_nl nb1068 (fun b_ hb_ => (S1045.ow b_ (((fun b hb => (.tail _ (List.mem_append_left _ hb))) : ∀ b ∈ L1052, b ∈ (D892 :: (L1052 ++ (p789 :: (x799 :: (p815 :: [])))))) b_ hb_)).2.1)) : ∀ c ∈ L1065, c ∉ L1052) c ((fun c hc => hs1128 c (List.mem_cons_of_mem _ hc)) c hc))) b hb)) b hb (z ▸ (hs1143 _ List.mem_cons_self))) : ∀ b ∈ L1052, b ≠ b1146)) (OwAll.mono (Same.refl _) (keeps_same e1114) w1080))))
            have w1180 : OwAll G1119 H1169 L1065 (vs1064) ((setL (v1060) (((itD (v786) (5)) % (((v859) : (List (Int × Int))).length : Int))) (setL ((itD (v1060) (((itD (v786) (5)) % (((v859) : (List (Int × Int))).length : Int))))) (((itD (v786) (6)) % (itD (v859) (((itD (v786) (5)) % (((v859) : (List (Int × Int))).length : Int)))).1)) (setL ((itD ((itD (v1060) (((itD (v786) (5)) % (((v859) : (List (Int × Int))).length : Int))))) (((itD (v786) (6)) % (itD (v859) (((itD (v786) (5)) % (((v859) : (List (Int × Int))).length : Int)))).1)))) (((itD (v786) (7)) % (itD (v859) (((itD (v786) (5)) % (((v859) : (List (Int × Int))).length : Int)))).2)) (5))) : (List (List (List Int)))).map (oL (oL oI))) := (OwAll.mono (Same.refl _) (keeps_same e1170) w1158)
            exact ⟨_, [], [], [], Same.refl _, (S1173.sub (all_cons (.head _) (all_app (L := []) all_nil (all_cons (.tail _ (.tail _ (List.mem_append_right _ (.head _)))) (all_cons (.tail _ (.head _)) (all_cons (.tail _ (.tail _ (List.mem_append_right _ (.tail _ (List.mem_append_right _ (.head _)))))) (all_cons (.tail _ (.tail _ (List.mem_append_right _ (.tail _ (List.mem_append_right _ (.tail _ (.head _))))))) (all_cons (.tail _ (.tail _ (List.mem_append_right _ (.tail _ (List.mem_append_right _ (.tail _ (.tail _ (.head _)))))))) (all_app ((fun b hb => (.tail _ (.tail _ (List.mem_append_right _ (.tail _ (List.mem_append_left _ hb)))))) : ∀ b ∈ L1052, b ∈ (D1163 :: (a1063 :: (L1065 ++ (D892 :: (L1052 ++ (p789 :: (x799 :: (p815 :: []))))))))) (all_app ((fun b hb => (.tail _ (.tail _ (List.mem_append_left _ hb)))) : ∀ b ∈ L1065, b ∈ (D1163 :: (a1063 :: (L1065 ++ (D892 :: (L1052 ++ (p789 :: (x799 :: (p815 :: []))))))))) all_nil)))))))))), h1174, h1175, h1176, h1177, h1178, h1171, w1179, w1180, OwAll.nil, all_nil, all_nil, e1170, hw⟩
          · intro i H1181 _ hw
            obtain ⟨G1184, acc1186, vs1187, L1189, eG1185, S1182, h1193, h1194, h1195, h1196, h1197, h1183, w1198, w1199, d1188, nb1190, nd1191, eo1192, hw⟩ := hw
            exact (SqL.of (S1182.sG _ _ (eG1185 _ _ (eG1120 _ _ (eG1070 _ _ (eG1048 _ _ (eG879 _ _ h871)))))))
          · intro i x H1200 hj hw
            obtain ⟨G1203, acc1205, vs1206, L1208, eG1204, S1201, h1212, h1213, h1214, h1215, h1216, h1202, w1217, w1218, d1207, nb1209, nd1210, eo1211, hw⟩ := hw
            obtain ⟨x1219, hx, r1220⟩ := RpAll.get (RpAll.mono eG1204 (RpAll.mono eG1120 (RpAll.mono eG1070 (RpAll.mono eG1048 (RpAll.mono eG879 d872))))) hj
            obtain ⟨a1221, v1223, v1224, rfl, h1222, r1225, r1226⟩ := rp_tup2 r1220
            obtain rfl := rp_int r1225
            obtain rfl := rp_int r1226
            obtain ⟨z1227, hw⟩ := cW_mapA hx hw
            have hw := cW_noEr hw
            have hw : cW (F_law_c4  (x1219)) _ (fun _ => False) := hw
            unfold F_law_c4 at hw
            refine ⟨rfl, ?_⟩
            refine tyes_go ?_
            obtain ⟨g1229, hw⟩ := cW_grd hw
            obtain ⟨K1232, hK1233, hw⟩ := cW_push hw
            refine ⟨_, rfl, _, _, _, _, rfl, rfl, (SqT.of (S1201.sG _ _ h1222)), rfl, _, rfl, g1229.1, g1229.2, fun D1234 n1235 => lc_range (lo := 0) (n := Int.toNat (x1219.1)) (fun i2 H' => ∃ (G' : Hp) (acc1237 : (List (List Int))) (vs1238 : List V) (L1236 : List Addr), Same G1203 G' ∧ Sep [] H H G' H' (D1234 :: (L1236 ++ (D892 :: (a1063 :: (D1163 :: (p789 :: (x799 :: (p815 :: (L1052 ++ (L1065 ++ (L1208 ++ []))))))))))) ∧ H' D892 = some (.lst (vs1050)) ∧ H' a1063 = some (.lst (vs1064)) ∧ H' D1163 = some (.lst (vs1206)) ∧ H' p789 = some (.lst ((v786 : (List Int)).map V.int)) ∧ H' x799 = some (.ins AD.c_Format dx800 [("width", V.int (v810.width)), ("height", V.int (v810.height)), ("depth", V.int (v810.depth)), ("chroma", V.int (v810.chroma))]) ∧ H' p815 = some (.lst (([4, 8] : (List Int)).map V.int)) ∧ H' D1234 = some (.lst vs1238) ∧ OwAll G' H' L1052 (vs1050) ((acc1049 : (List (List (List Int)))).map (oL (oL oI))) ∧ OwAll G' H' L1065 (vs1064) ((setL (v1060) (((itD (v786) (5)) % (((v859) : (List (Int × Int))).length : Int))) (setL ((itD (v1060) (((itD (v786) (5)) % (((v859) : (List (Int × Int))).length : Int))))) (((itD (v786) (6)) % (itD (v859) (((itD (v786) (5)) % (((v859) : (List (Int × Int))).length : Int)))).1)) (setL ((itD ((itD (v1060) (((itD (v786) (5)) % (((v859) : (List (Int × Int))).length : Int))))) (((itD (v786) (6)) % (itD (v859) (((itD (v786) (5)) % (((v859) : (List (Int × Int))).length : Int)))).1)))) (((itD (v786) (7)) % (itD (v859) (((itD (v786) (5)) % (((v859) : (List (Int × Int))).length : Int)))).2)) (5))) : (List (List (List Int)))).map (oL (oL oI))) ∧ OwAll G' H' L1208 (vs1206) ((acc1205 : (List (List (List Int)))).map (oL (oL oI))) ∧ OwAll G' H' L1236 vs1238 ((acc1237 : (List (List Int))).map (oL oI)) ∧ (∀ b ∈ L1236, H1200 b = none) ∧ (∀ b ∈ L1236, b ≠ D1234) ∧ Same H1200 H' ∧ cW (mapA (List.drop i2 (rng (0) (Int.toNat (x1219.1)))) acc1237 (fun x => noEr (F_law_c5 (x1219) x))) K1232 (fun _ => False)) ?_ ?_ ?_⟩
            · generalize g1239 : upd H1200 D1234 _ = H1240
              obtain ⟨e1241, h1242⟩ := gen_new n1235 g1239
              have fr1243 := S1201.free n1235
              have S1244 := S1201.new n1235 e1241 h1242 fr1243
              have h1245 := (e1241 _ _ h1212)
              have h1246 := (e1241 _ _ h1213)
              have h1247 := (e1241 _ _ h1202)
              have h1248 := (e1241 _ _ h1214)
              have h1249 := (e1241 _ _ h1215)
              have h1250 := (e1241 _ _ h1216)
              have w1251 : OwAll G1203 H1240 L1052 (vs1050) ((acc1049 : (List (List (List Int)))).map (oL (oL oI))) := (OwAll.mono (Same.refl _) (keeps_same e1241) w1217)
              have w1252 : OwAll G1203 H1240 L1065 (vs1064) ((setL (v1060) (((itD (v786) (5)) % (((v859) : (List (Int × Int))).length : Int))) (setL ((itD (v1060) (((itD (v786) (5)) % (((v859) : (List (Int × Int))).length : Int))))) (((itD (v786) (6)) % (itD (v859) (((itD (v786) (5)) % (((v859) : (List (Int × Int))).length : Int)))).1)) (setL ((itD ((itD (v1060) (((itD (v786) (5)) % (((v859) : (List (Int × Int))).length : Int))))) (((itD (v786) (6)) % (itD (v859) (((itD (v786) (5)) % (((v859) : (List (Int × Int))).length : Int)))).1)))) (((itD (v786) (7)) % (itD (v859) (((itD (v786) (5)) % (((v859) : (List (Int × Int))).length : Int)))).2)) (5))) : (List (List (List Int)))).map (oL (oL oI))) := (OwAll.mono (Same.refl _) (keeps_same e1241) w1218)
              have w1253 : OwAll G1203 H1240 L1208 (vs1206) ((acc1205 : (List (List (List Int)))).map (oL (oL oI))) := (OwAll.mono (Same.refl _) (keeps_same e1241) d1207)
              exact ⟨_, [], [], [], Same.refl _, (S1244.sub (all_cons (.head _) (all_app (L := []) all_nil (all_cons (.tail _ (.tail _ (List.mem_append_right _ (.head _)))) (all_cons (.tail _ (.tail _ (List.mem_append_right _ (.tail _ (.head _))))) (all_cons (.tail _ (.head _)) (all_cons (.tail _ (.tail _ (List.mem_append_right _ (.tail _ (.tail _ (.head _)))))) (all_cons (.tail _ (.tail _ (List.mem_append_right _ (.tail _ (.tail _ (.tail _ (.head _))))))) (all_cons (.tail _ (.tail _ (List.mem_append_right _ (.tail _ (.tail _ (.tail _ (.tail _ (.head _)))))))) (all_app ((fun b hb => (.tail _ (.tail _ (List.mem_append_right _ (.tail _ (.tail _ (.tail _ (.tail _ (.tail _ (List.mem_append_left _ hb)))))))))) : ∀ b ∈ L1052, b ∈ (D1234 :: (D1163 :: (L1208 ++ (D892 :: (a1063 :: (p789 :: (x799 :: (p815 :: (L1052 ++ (L1065 ++ []))))))))))) (all_app ((fun b hb => (.tail _ (.tail _ (List.mem_append_right _ (.tail _ (.tail _ (.tail _ (.tail _ (.tail _ (List.mem_append_right _ (List.mem_append_left _ hb))))))))))) : ∀ b ∈ L1065, b ∈ (D1234 :: (D1163 :: (L1208 ++ (D892 :: (a1063 :: (p789 :: (x799 :: (p815 :: (L1052 ++ (L1065 ++ []))))))))))) (all_app ((fun b hb => (.tail _ (.tail _ (List.mem_append_left _ hb)))) : ∀ b ∈ L1208, b ∈ (D1234 :: (D1163 :: (L1208 ++ (D892 :: (a1063 :: (p789 :: (x799 :: (p815 :: (L1052 ++ (L1065 ++ []))))))))))) all_nil)))))))))))), h1245, h1246, h1247, h1248, h1249, h1250, h1242, w1251, w1252, w1253, OwAll.nil, all_nil, all_nil, e1241, hw⟩
            · intro i2 H1254 hi hw
              obtain ⟨G1257, acc1259, vs1260, L1262, eG1258, S1255, h1266, h1267, h1268, h1269, h1270, h1271, h1256, w1272, w1273, w1274, d1261, nb1263, nd1264, eo1265, hw⟩ := hw
              obtain ⟨z1275, hw⟩ := cW_mapA (rng_get hi) hw
              generalize (0 + (i2 : Int)) = x1276 at hw ⊢
              have hw := cW_noEr hw
              have hw : cW (F_law_c5 (x1219) (x1276)) _ (fun _ => False) := hw
              unfold F_law_c5 at hw
              refine ⟨rfl, ?_⟩
              refine tyes_go ?_
              refine ⟨(by show 1 ≤ sizeLine; decide), fun p1278 n1279 => ?_⟩
              generalize g1280 : upd H1254 p1278 _ = H1281
              obtain ⟨e1282, h1283⟩ := gen_new n1279 g1280
              have h1284 : H1281 p1278 = some (.lst (([0] : (List Int)).map V.int)) := h1283
              have fr1285 := S1255.free n1279
              have S1286 := S1255.new n1279 e1282 h1284 fr1285
              obtain ⟨g1287, hw⟩ := cW_grd hw
              refine ⟨_, rfl, _, _, _, _, rfl, rfl, (SqT.of (S1286.sG _ _ (eG1258 _ _ h1222))), rfl, _, _, _, rfl, rfl, h1284, g1287.1, g1287.2.1, (rep_lenM g1287.2.2), fun p1288 n1289 => ?_⟩
              generalize g1290 : upd H1281 p1288 _ = H1291
              obtain ⟨e1292, h1293⟩ := gen_new n1289 g1290
              have h1294 : H1291 p1288 = some (.lst ((repL ([0]) (x1219.2) : (List Int)).map V.int)) := rep_map h1293
              have fr1295 := S1286.free n1289
              have S1296 := S1286.new n1289 e1292 h1294 fr1295
              have w1297 : OwAll G1257 H1291 L1262 (vs1260) ((acc1259 : (List (List Int))).map (oL oI)) := (OwAll.mono (Same.refl _) (keeps_same e1292) (OwAll.mono (Same.refl _) (keeps_same e1282) d1261))
              have h1298 := (e1292 _ _ (e1282 _ _ h1256))
              refine ⟨_, h1298, (app_len (OwAll.rpA w1297 (encO_L encO_I) S1296.sG) z1275), ?_⟩
              generalize g1299 : upd H1291 D1234 _ = H1300
              obtain ⟨x1301, h1302⟩ := gen_mut g1299
              have S1303 := S1296.mut1 x1301 (.tail _ (.tail _ (.head _))) h1302
              have hw := cW_ok hw
              have h1304 := (x1301 _ _ (e1292 _ _ (e1282 _ _ h1266)) (ne_of_none h1212 n1235))
              have h1305 := (x1301 _ _ (e1292 _ _ (e1282 _ _ h1267)) (ne_of_none h1213 n1235))
              have h1306 := (x1301 _ _ (e1292 _ _ (e1282 _ _ h1268)) (ne_of_none h1202 n1235))
              have h1307 := (x1301 _ _ (e1292 _ _ (e1282 _ _ h1269)) (ne_of_none h1214 n1235))
              have h1308 := (x1301 _ _ (e1292 _ _ (e1282 _ _ h1270)) (ne_of_none h1215 n1235))
              have h1309 := (x1301 _ _ (e1292 _ _ (e1282 _ _ h1271)) (ne_of_none h1216 n1235))
              have w1310 : OwAll G1257 H1300 L1052 (vs1050) ((acc1049 : (List (List (List Int)))).map (oL (oL oI))) := (OwAll.mono (Same.refl _) (keeps_mut x1301 ((there_ne (fun b_ hb_ => (S1201.ow b_ (((fun b hb => (.tail _ (List.mem_append_right _ (.tail _ (.tail _ (.tail _ (.tail _ (.tail _ (List.mem_append_left _ hb))))))))) : ∀ b ∈ L1052, b ∈ (D1163 :: (L1208 ++ (D892 :: (a1063 :: (p789 :: (x799 :: (p815 :: (L1052 ++ (L1065 ++ [])))))))))) b_ hb_)).2.1) n1235) : ∀ b ∈ L1052, b ≠ D1234)) (OwAll.mono (Same.refl _) (keeps_same e1292) (OwAll.mono (Same.refl _) (keeps_same e1282) w1272)))
              have w1311 : OwAll G1257 H1300 L1065 (vs1064) ((setL (v1060) (((itD (v786) (5)) % (((v859) : (List (Int × Int))).length : Int))) (setL ((itD (v1060) (((itD (v786) (5)) % (((v859) : (List (Int × Int))).length : Int))))) (((itD (v786) (6)) % (itD (v859) (((itD (v786) (5)) % (((v859) : (List (Int × Int))).length : Int)))).1)) (setL ((itD ((itD (v1060) (((itD (v786) (5)) % (((v859) : (List (Int × Int))).length : Int))))) (((itD (v786) (6)) % (itD (v859) (((itD (v786) (5)) % (((v859) : (List (Int × Int))).length : Int)))).1)))) (((itD (v786) (7)) % (itD (v859) (((itD (v786) (5)) % (((v859) : (List (Int × Int))).length : Int)))).2)) (5))) : (List (List (List Int)))).map (oL (oL oI))) := (OwAll.mono (Same.refl _) (keeps_mut x1301 ((there_ne (fun b_ hb_ => (S1201.ow b_ (((fun b hb => (.tail _ (List.mem_append_right _ (.tail _ (.tail _ (.tail _ (.tail _ (.tail _ (List.mem_append_right _ (List.mem_append_left _ hb)))))))))) : ∀ b ∈ L1065, b ∈ (D1163 :: (L1208 ++ (D892 :: (a1063 :: (p789 :: (x799 :: (p815 :: (L1052 ++ (L1065 ++ [])))))))))) b_ hb_)).2.1) n1235) : ∀ b ∈ L1065, b ≠ D1234)) (OwAll.mono (Same.refl _) (keeps_same e1292) (OwAll.mono (Same.refl _) (keeps_same e1282) w1273)))
              have w1312 : OwAll G1257 H1300 L1208 (vs1206) ((acc1205 : (List (List (List Int)))).map (oL (oL oI))) := (OwAll.mono (Same.refl _) (keeps_mut x1301 ((there_ne (fun b_ hb_ => (S1201.ow b_ (((fun b hb => (.tail _ (List.mem_append_left _ hb))) : ∀ b ∈ L1208, b ∈ (D1163 :: (L1208 ++ (D892 :: (a1063 :: (p789 :: (x799 :: (p815 :: (L1052 ++ (L1065 ++ [])))))))))) b_ hb_)).2.1) n1235) : ∀ b ∈ L1208, b ≠ D1234)) (OwAll.mono (Same.refl _) (keeps_same e1292) (OwAll.mono (Same.refl _) (keeps_same e1282) w1274)))
              exact ⟨_, (acc1259 ++ [repL ([0]) (x1219.2)]), _, (L1262 ++ (p1288 :: ([] : List Addr))), eG1258, (S1303.sub (all_cons (.tail _ (.tail _ (.head _))) (all_app (all_app ((fun b hb => (.tail _ (.tail _ (.tail _ (List.mem_append_left _ hb))))) : ∀ b ∈ L1262, b ∈ (p1288 :: (p1278 :: (D1234 :: (L1262 ++ (D892 :: (a1063 :: (D1163 :: (p789 :: (x799 :: (p815 :: (L1052 ++ (L1065 ++ (L1208 ++ [])))))))))))))) (all_cons (.head _) all_nil)) (all_cons (.tail _ (.tail _ (.tail _ (List.mem_append_right _ (.head _))))) (all_cons (.tail _ (.tail _ (.tail _ (List.mem_append_right _ (.tail _ (.head _)))))) (all_cons (.tail _ (.tail _ (.tail _ (List.mem_append_right _ (.tail _ (.tail _ (.head _))))))) (all_cons (.tail _ (.tail _ (.tail _ (List.mem_append_right _ (.tail _ (.tail _ (.tail _ (.head _)))))))) (all_cons (.tail _ (.tail _ (.tail _ (List.mem_append_right _ (.tail _ (.tail _ (.tail _ (.tail _ (.head _))))))))) (all_cons (.tail _ (.tail _ (.tail _ (List.mem_append_right _ (.tail _ (.tail _ (.tail _ (.tail _ (.tail _ (.head _)))))))))) (all_app ((fun b hb => (.tail _ (.tail _ (.tail _ (List.mem_append_right _ (.tail _ (.tail _ (.tail _ (.tail _ (.tail _ (.tail _ (List.mem_append_left _ hb)))))))))))) : ∀ b ∈ L1052, b ∈ (p1288 :: (p1278 :: (D1234 :: (L1262 ++ (D892 :: (a1063 :: (D1163 :: (p789 :: (x799 :: (p815 :: (L1052 ++ (L1065 ++ (L1208 ++ [])))))))))))))) (all_app ((fun b hb => (.tail _ (.tail _ (.tail _ (List.mem_append_right _ (.tail _ (.tail _ (.tail _ (.tail _ (.tail _ (.tail _ (List.mem_append_right _ (List.mem_append_left _ hb))))))))))))) : ∀ b ∈ L1065, b ∈ (p1288 :: (p1278 :: (D1234 :: (L1262 ++ (D892 :: (a1063 :: (D1163 :: (p789 :: (x799 :: (p815 :: (L1052 ++ (L1065 ++ (L1208 ++ [])))))))))))))) (all_app ((fun b hb => (.tail _ (.tail _ (.tail _ (List.mem_append_right _ (.tail _ (.tail _ (.tail _ (.tail _ (.tail _ (.tail _ (List.mem_append_right _ (List.mem_append_right _ (List.mem_append_left _ hb)))))))))))))) : ∀ b ∈ L1208, b ∈ (p1288 :: (p1278 :: (D1234 :: (L1262 ++ (D892 :: (a1063 :: (D1163 :: (p789 :: (x799 :: (p815 :: (L1052 ++ (L1065 ++ (L1208 ++ [])))))))))))))) all_nil)))))))))))), h1304, h1305, h1306, h1307, h1308, h1309, h1302, w1310, w1311, w1312, (OwAll.mono (Same.refl _) (keeps_mut x1301 ((all_app nd1264 (all_cons (ne_of_none (e1282 _ _ h1256) n1289).symm all_nil)) : ∀ b ∈ (L1262 ++ (p1288 :: ([] : List Addr))), b ≠ D1234)) (OwAll.snocM w1297 (Ow.ints h1294) ((fun b hb => (nm_cons ((there_ne (fun b_ hb_ => (S1286.ow b_ (((fun b hb => (.tail _ (.tail _ (List.mem_append_left _ hb)))) : ∀ b ∈ L1262, b ∈ (p1278 :: (D1234 :: (L1262 ++ (D892 :: (a1063 :: (D1163 :: (p789 :: (x799 :: (p815 :: (L1052 ++ (L1065 ++ (L1208 ++ []))))))))))))) b_ hb_)).2.1) n1289) b hb) nm_nil)) : ∀ b ∈ L1262, b ∉ (p1288 :: ([] : List Addr))))), ((all_app nb1263 (all_cons (none_of_same (Same.trans eo1265 e1282) n1289) all_nil)) : ∀ b ∈ (L1262 ++ (p1288 :: ([] : List Addr))), H1200 b = none), ((all_app nd1264 (all_cons (ne_of_none (e1282 _ _ h1256) n1289).symm all_nil)) : ∀ b ∈ (L1262 ++ (p1288 :: ([] : List Addr))), b ≠ D1234), (same_mut (Same.trans (Same.trans eo1265 e1282) e1292) x1301 n1235), hw⟩
            intro H1313 hw
            obtain ⟨G1316, acc1318, vs1319, L1321, eG1317, S1314, h1325, h1326, h1327, h1328, h1329, h1330, h1315, w1331, w1332, w1333, d1320, nb1322, nd1323, eo1324, hw⟩ := hw
            have hw := hK1233 _ (cW_mapA0 (rng_len _ _).symm hw)
            have fr1334 := S1201.free n1235
            refine ⟨_, h1327, (app_len (OwAll.rpA w1333 (encO_L (encO_L encO_I)) S1314.sG) z1227), ?_⟩
            generalize g1335 : upd H1313 D1163 _ = H1336
            obtain ⟨x1337, h1338⟩ := gen_mut g1335
            have S1339 := S1314.mut1 x1337 (.tail _ (List.mem_append_right _ (.tail _ (.tail _ (.head _))))) h1338
            have hw := cW_ok hw
            have h1340 := (x1337 _ _ h1325 (ne_of_none (x1151 _ _ (e1114 _ _ h1079) ((((fun b hb => ((new_ne2 nb1068 (S1045.ow _ (.head _)).2.1) : ∀ b ∈ L1065, b ≠ D892) b ((fun c hc => hs1128 c (List.mem_cons_of_mem _ hc)) b hb)) : ∀ b ∈ L1134, b ≠ D892) _ (hs1143 _ List.mem_cons_self))).symm) n1164))
            have h1341 := (x1337 _ _ h1326 (ne_of_none (x1151 _ _ h1131 ((((fun b hb => (nd1069 : ∀ b ∈ L1065, b ≠ a1063) b ((fun c hc => hs1128 c (List.mem_cons_of_mem _ hc)) b hb)) : ∀ b ∈ L1134, b ≠ a1063) _ (hs1143 _ List.mem_cons_self))).symm) n1164))
            have h1342 := (x1337 _ _ h1328 (ne_of_none (x1151 _ _ (e1114 _ _ h1083) ((((fun b hb => ((new_ne2 nb1068 (S1045.ow _ (.tail _ (List.mem_append_right _ (.head _)))).2.1) : ∀ b ∈ L1065, b ≠ p789) b ((fun c hc => hs1128 c (List.mem_cons_of_mem _ hc)) b hb)) : ∀ b ∈ L1134, b ≠ p789) _ (hs1143 _ List.mem_cons_self))).symm) n1164))
            have h1343 := (x1337 _ _ h1329 (ne_of_none (x1151 _ _ (e1114 _ _ (e1062 _ _ h1057)) ((((fun b hb => ((new_ne2 nb1068 (S1045.ow _ (.tail _ (List.mem_append_right _ (.tail _ (.head _))))).2.1) : ∀ b ∈ L1065, b ≠ x799) b ((fun c hc => hs1128 c (List.mem_cons_of_mem _ hc)) b hb)) : ∀ b ∈ L1134, b ≠ x799) _ (hs1143 _ List.mem_cons_self))).symm) n1164))
            have h1344 := (x1337 _ _ h1330 (ne_of_none (x1151 _ _ (e1114 _ _ (e1062 _ _ h1058)) ((((fun b hb => ((new_ne2 nb1068 (S1045.ow _ (.tail _ (List.mem_append_right _ (.tail _ (.tail _ (.head _)))))).2.1) : ∀ b ∈ L1065, b ≠ p815) b ((fun c hc => hs1128 c (List.mem_cons_of_mem _ hc)) b hb)) : ∀ b ∈ L1134, b ≠ p815) _ (hs1143 _ List.mem_cons_self))).symm) n1164))
            have w1345 : OwAll G1316 H1336 L1052 (vs1050) ((acc1049 : (List (List (List Int)))).map (oL (oL oI))) := (OwAll.mono (Same.refl _) (keeps_mut x1337 ((there_ne (fun b_ hb_ => (S1154.ow b_ (((fun b hb => (.tail _ (List.mem_append_right _ (.tail _ (List.mem_append_left _ hb))))) : ∀ b ∈ L1052, b ∈ (a1063 :: (L1065 ++ (D892 :: (L1052 ++ (p789 :: (x799 :: (p815 :: [])))))))) b_ hb_)).2.1) n1164) : ∀ b ∈ L1052, b ≠ D1163)) w1331)
            have w1346 : OwAll G1316 H1336 L1065 (vs1064) ((setL (v1060) (((itD (v786) (5)) % (((v859) : (List (Int × Int))).length : Int))) (setL ((itD (v1060) (((itD (v786) (5)) % (((v859) : (List (Int × Int))).length : Int))))) (((itD (v786) (6)) % (itD (v859) (((itD (v786) (5)) % (((v859) : (List (Int × Int))).length : Int)))).1)) (setL ((itD ((itD (v1060) (((itD (v786) (5)) % (((v859) : (List (Int × Int))).length : Int))))) (((itD (v786) (6)) % (itD (v859) (((itD (v786) (5)) % (((v859) : (List (Int × Int))).length : Int)))).1)))) (((itD (v786) (7)) % (itD (v859) (((itD (v786) (5)) % (((v859) : (List (Int × Int))).length : Int)))).2)) (5))) : (List (List (List Int)))).map (oL (oL oI))) := (OwAll.mono (Same.refl _) (keeps_mut x1337 ((there_ne (fun b_ hb_ => (S1154.ow b_ (((fun b hb => (.tail _ (List.mem_append_left _ hb))) : ∀ b ∈ L1065, b ∈ (a1063 :: (L1065 ++ (D892 :: (L1052 ++ (p789 :: (x799 :: (p815 :: [])))))))) b_ hb_)).2.1) n1164) : ∀ b ∈ L1065, b ≠ D1163)) w1332)
            exact ⟨_, (acc1205 ++ [acc1318]), _, (L1208 ++ (D1234 :: L1321)), (Same.trans eG1204 eG1317), (S1339.sub (all_cons (.tail _ (List.mem_append_right _ (.tail _ (.tail _ (.head _))))) (all_app (all_app ((fun b hb => (.tail _ (List.mem_append_right _ (.tail _ (.tail _ (.tail _ (.tail _ (.tail _ (.tail _ (List.mem_append_right _ (List.mem_append_right _ (List.mem_append_left _ hb)))))))))))) : ∀ b ∈ L1208, b ∈ (D1234 :: (L1321 ++ (D892 :: (a1063 :: (D1163 :: (p789 :: (x799 :: (p815 :: (L1052 ++ (L1065 ++ (L1208 ++ [])))))))))))) (all_cons (.head _) ((fun b hb => (.tail _ (List.mem_append_left _ hb))) : ∀ b ∈ L1321, b ∈ (D1234 :: (L1321 ++ (D892 :: (a1063 :: (D1163 :: (p789 :: (x799 :: (p815 :: (L1052 ++ (L1065 ++ (L1208 ++ [])))))))))))))) (all_cons (.tail _ (List.mem_append_right _ (.head _))) (all_cons (.tail _ (List.mem_append_right _ (.tail _ (.head _)))) (all_cons (.tail _ (List.mem_append_right _ (.tail _ (.tail _ (.tail _ (.head _)))))) (all_cons (.tail _ (List.mem_append_right _ (.tail _ (.tail _ (.tail _ (.tail _ (.head _))))))) (all_cons (.tail _ (List.mem_append_right _ (.tail _ (.tail _ (.tail _ (.tail _ (.tail _ (.head _)))))))) (all_app ((fun b hb => (.tail _ (List.mem_append_right _ (.tail _ (.tail _ (.tail _ (.tail _ (.tail _ (.tail _ (List.mem_append_left _ hb)))))))))) : ∀ b ∈ L1052, b ∈ (D1234 :: (L1321 ++ (D892 :: (a1063 :: (D1163 :: (p789 :: (x799 :: (p815 :: (L1052 ++ (L1065 ++ (L1208 ++ [])))))))))))) (all_app ((fun b hb => (.tail _ (List.mem_append_right _ (.tail _ (.tail _ (.tail _ (.tail _ (.tail _ (.tail _ (List.mem_append_right _ (List.mem_append_left _ hb))))))))))) : ∀ b ∈ L1065, b ∈ (D1234 :: (L1321 ++ (D892 :: (a1063 :: (D1163 :: (p789 :: (x799 :: (p815 :: (L1052 ++ (L1065 ++ (L1208 ++ [])))))))))))) all_nil)))))))))), h1340, h1341, h1342, h1343, h1344, h1338, w1345, w1346, (OwAll.mono (Same.refl _) (keeps_mut x1337 ((all_app nd1210 (all_cons (ne_of_none h1202 n1235).symm (new_ne2 nb1322 (S1201.ow _ (.head _)).2.1))) : ∀ b ∈ (L1208 ++ (D1234 :: L1321)), b ≠ D1163)) (OwAll.snocM w1333 (Ow.list h1315 d1320 (nd1323 : ∀ b ∈ L1321, b ≠ D1234)) ((fun b hb => (nm_cons ((there_ne (fun b_ hb_ => (S1201.ow b_ (((fun b hb => (.tail _ (List.mem_append_left _ hb))) : ∀ b ∈ L1208, b ∈ (D1163 :: (L1208 ++ (D892 :: (a1063 :: (p789 :: (x799 :: (p815 :: (L1052 ++ (L1065 ++ [])))))))))) b_ hb_)).2.1) n1235) b hb) ((nl_symm (new_nl nb1322 (fun b_ hb_ => (S1201.ow b_ (((fun b hb => (.tail _ (List.mem_append_left _ hb))) : ∀ b ∈ L1208, b ∈ (D1163 :: (L1208 ++ (D892 :: (a1063 :: (p789 :: (x799 :: (p815 :: (L1052 ++ (L1065 ++ [])))))))))) b_ hb_)).2.1))) b hb))) : ∀ b ∈ L1208, b ∉ (D1234 :: L1321)))), ((all_app nb1209 (all_cons (none_of_same eo1211 n1235) (fun b hb => none_of_same eo1211 (nb1322 b hb)))) : ∀ b ∈ (L1208 ++ (D1234 :: L1321)), H1150 b = none), ((all_app nd1210 (all_cons (ne_of_none h1202 n1235).symm (new_ne2 nb1322 (S1201.ow _ (.head _)).2.1))) : ∀ b ∈ (L1208 ++ (D1234 :: L1321)), b ≠ D1163), (same_mut (Same.trans eo1211 eo1324) x1337 n1164), hw⟩
          intro H1347 hw
          obtain ⟨G1350, acc1352, vs1353, L1355, eG1351, S1348, h1359, h1360, h1361, h1362, h1363, h1349, w1364, w1365, d1354, nb1356, nd1357, eo1358, hw⟩ := hw
          have hw := hK1162 _ (cW_mapA0 (by rw [(RpAll.mono eG1351 (RpAll.mono eG1120 (RpAll.mono eG1070 (RpAll.mono eG1048 (RpAll.mono eG879 d872))))).len, List.length_map]) hw)
          have fr1366 := S1154.free n1164
          obtain ⟨g1367, hw⟩ := cW_grd hw
          obtain ⟨v1368, L1369, a1370, w1371, hs1372, up1373, gr1374⟩ := OwAll.partM (k := ((itD (v786) (5)) % (((v859) : (List (Int × Int))).length : Int))) d1354 g1367
          obtain ⟨b1375, vs1376, L1377, rfl, rfl, h1378, w1379, nb1380⟩ := Ow.toList w1371
          obtain ⟨g1381, hw⟩ := cW_grd hw
          obtain ⟨v1382, L1383, a1384, w1385, hs1386, up1387, gr1388⟩ := OwAll.partM (k := ((itD (v786) (6)) % (itD (v859) (((itD (v786) (5)) % (((v859) : (List (Int × Int))).length : Int)))).1)) w1379 g1381
          obtain ⟨b1389, rfl, rfl, h1390⟩ := Ow.toInts w1385
          obtain ⟨g1391, hw⟩ := cW_grd hw
          refine ⟨_, rfl, _, rfl, _, _, _, _, rfl, rfl, (SqL.of h1349), a1370, _, rfl, _, _, _, _, rfl, rfl, (SqT.of (S1348.sG _ _ (eG1351 _ _ hg1121))), rfl, _, _, _, _, rfl, rfl, (SqL.of h1378), a1384, _, rfl, _, _, _, _, rfl, rfl, (SqT.of (S1348.sG _ _ (eG1351 _ _ hg1121))), rfl, _, _, _, _, rfl, rfl, h1390, (ixN_map g1391), ?_⟩
          generalize g1392 : upd H1347 b1389 _ = H1393
          obtain ⟨x1394, h1395⟩ := gen_mut g1392
          have h1396 : H1393 b1389 = some (.lst ((setL ((itD ((itD (acc1352) (((itD (v786) (5)) % (((v859) : (List (Int × Int))).length : Int))))) (((itD (v786) (6)) % (itD (v859) (((itD (v786) (5)) % (((v859) : (List (Int × Int))).length : Int)))).1)))) (((itD (v786) (7)) % (itD (v859) (((itD (v786) (5)) % (((v859) : (List (Int × Int))).length : Int)))).2)) (5) : (List Int)).map V.int)) := set_map h1395
          have S1397 := S1348.mut1 x1394 (((fun b hb => (((fun b hb => (.tail _ (List.mem_append_left _ hb))) : ∀ b ∈ L1355, b ∈ (D1163 :: (L1355 ++ (D892 :: (a1063 :: (p789 :: (x799 :: (p815 :: (L1052 ++ (L1065 ++ [])))))))))) : ∀ b ∈ L1355, b ∈ (D1163 :: (L1355 ++ (D892 :: (a1063 :: (p789 :: (x799 :: (p815 :: (L1052 ++ (L1065 ++ [])))))))))) b ((fun c hc => hs1372 c (List.mem_cons_of_mem _ hc)) b hb)) : ∀ b ∈ L1377, b ∈ (D1163 :: (L1355 ++ (D892 :: (a1063 :: (p789 :: (x799 :: (p815 :: (L1052 ++ (L1065 ++ [])))))))))) _ (hs1386 _ List.mem_cons_self)) h1396
          have w1398 : OwAll G1350 H1393 L1377 (vs1376) ((setL ((itD (acc1352) (((itD (v786) (5)) % (((v859) : (List (Int × Int))).length : Int))))) (((itD (v786) (6)) % (itD (v859) (((itD (v786) (5)) % (((v859) : (List (Int × Int))).length : Int)))).1)) (setL ((itD ((itD (acc1352) (((itD (v786) (5)) % (((v859) : (List (Int × Int))).length : Int))))) (((itD (v786) (6)) % (itD (v859) (((itD (v786) (5)) % (((v859) : (List (Int × Int))).length : Int)))).1)))) (((itD (v786) (7)) % (itD (v859) (((itD (v786) (5)) % (((v859) : (List (Int × Int))).length : Int)))).2)) (5)) : (List (List Int))).map (oL oI)) := upd_tree up1387 x1394 List.mem_cons_self (Ow.ints h1396)
          have hw := cW_bnd hw
          have h1400 := (x1394 _ _ h1378 (nb1380 _ (hs1386 _ List.mem_cons_self)).symm)
          have w1401 : OwAll G1350 H1393 L1355 (vs1353) ((setL (acc1352) (((itD (v786) (5)) % (((v859) : (List (Int × Int))).length : Int))) (setL ((itD (acc1352) (((itD (v786) (5)) % (((v859) : (List (Int × Int))).length : Int))))) (((itD (v786) (6)) % (itD (v859) (((itD (v786) (5)) % (((v859) : (List (Int × Int))).length : Int)))).1)) (setL ((itD ((itD (acc1352) (((itD (v786) (5)) % (((v859) : (List (Int × Int))).length : Int))))) (((itD (v786) (6)) % (itD (v859) (((itD (v786) (5)) % (((v859) : (List (Int × Int))).length : Int)))).1)))) (((itD (v786) (7)) % (itD (v859) (((itD (v786) (5)) % (((v859) : (List (Int × Int))).length : Int)))).2)) (5))) : (List (List (List Int)))).map (oL (oL oI))) := upd_tree up1373 x1394 (List.mem_cons_of_mem _ (hs1386 _ List.mem_cons_self)) (Ow.list h1400 w1398 (nb1380 : ∀ b ∈ L1377, b ≠ b1375))
          have hw := cW_bnd hw
          have h1403 := (x1394 _ _ h1360 ((((fun b hb => ((new_ne2 nb1356 (S1154.ow _ (.head _)).2.1) : ∀ b ∈ L1355, b ≠ a1063) b ((fun c hc => hs1372 c (List.mem_cons_of_mem _ hc)) b hb)) : ∀ b ∈ L1377, b ≠ a1063) _ (hs1386 _ List.mem_cons_self))).symm)
          have w1404 : OwAll G1350 H1393 L1065 (vs1064) ((setL (v1060) (((itD (v786) (5)) % (((v859) : (List (Int × Int))).length : Int))) (setL ((itD (v1060) (((itD (v786) (5)) % (((v859) : (List (Int × Int))).length : Int))))) (((itD (v786) (6)) % (itD (v859) (((itD (v786) (5)) % (((v859) : (List (Int × Int))).length : Int)))).1)) (setL ((itD ((itD (v1060) (((itD (v786) (5)) % (((v859) : (List (Int × Int))).length : Int))))) (((itD (v786) (6)) % (itD (v859) (((itD (v786) (5)) % (((v859) : (List (Int × Int))).length : Int)))).1)))) (((itD (v786) (7)) % (itD (v859) (((itD (v786) (5)) % (((v859) : (List (Int × Int))).length : Int)))).2)) (5))) : (List (List (List Int)))).map (oL (oL oI))) := (OwAll.mono (Same.refl _) (keeps_mut x1394 ((fun b hb z => (fun b hb => ((nl_symm (fun c hc => ((new_nl nb1356 (fun b_ hb_ => (S1154.ow b_ (((fun b hb => (.tail _ (List.mem_append_left _ hb))) : ∀ b ∈ L1065, b ∈ (a1063 :: (L1065 ++ (D892 :: (L1052 ++ (p789 :: (x799 :: (p815 :: [])))))))) b_ hb_)).2.1)) : ∀ c ∈ L1355, c ∉ L1065) c ((fun c hc => hs1372 c (List.mem_cons_of_mem _ hc)) c hc))) b hb)) b hb (z ▸ (hs1386 _ List.mem_cons_self))) : ∀ b ∈ L1065, b ≠ b1389)) w1365)
          have h1405 := (x1394 _ _ h1349 ((((fun b hb => (nd1357 : ∀ b ∈ L1355, b ≠ D1163) b ((fun c hc => hs1372 c (List.mem_cons_of_mem _ hc)) b hb)) : ∀ b ∈ L1377, b ≠ D1163) _ (hs1386 _ List.mem_cons_self))).symm)
          refine ⟨_, rfl, _, rfl, _, _, (rp_mk_list h1403 (OwAll.rpA w1404 (encO_L (encO_L encO_I)) S1397.sG)), (rp_mk_list h1405 (OwAll.rpA w1401 (encO_L (encO_L encO_I)) S1397.sG)), _, rfl, ?_⟩
          refine iteN (fun c1406 => ?_) (fun c1406 => ?_)
          · have hw := cW_neg c1406 hw
            have hw := cW_ok hw
            have hw := hK856 (.rt _) hw
            have hw := hK829 (.rt _) hw
            have hw := cW_ok hw
            exact eq_bl (k _) (hK0 _ hw).symm
          · have hw := cW_pos c1406 hw
            obtain ⟨g1407, hw⟩ := cW_grd hw
            obtain ⟨v1408, L1409, a1410, w1411, hs1412, up1413, gr1414⟩ := OwAll.partM (k := (-1)) w1404 g1407
            obtain ⟨b1415, vs1416, L1417, rfl, rfl, h1418, w1419, nb1420⟩ := Ow.toList w1411
            refine ⟨_, rfl, _, rfl, _, _, _, _, rfl, rfl, (SqL.of h1403), a1410, (.inl ⟨rfl, _, SqL.of h1418⟩), (by show 0 ≤ sizeLine; decide), fun p1421 n1422 => ?_⟩
            generalize g1423 : upd H1393 p1421 _ = H1424
            obtain ⟨e1425, h1426⟩ := gen_new n1422 g1423
            have h1427 : H1424 p1421 = some (.lst ((([] : (List Int)) : (List Int)).map V.int)) := h1426
            have fr1428 := S1397.free n1422
            have S1429 := S1397.new n1422 e1425 h1427 fr1428
            obtain ⟨g1430, hw⟩ := cW_grd hw
            have h1431 := (e1425 _ _ h1418)
            have w1432 : OwAll G1350 H1424 L1417 (vs1416) (((itD (setL (v1060) (((itD (v786) (5)) % (((v859) : (List (Int × Int))).length : Int))) (setL ((itD (v1060) (((itD (v786) (5)) % (((v859) : (List (Int × Int))).length : Int))))) (((itD (v786) (6)) % (itD (v859) (((itD (v786) (5)) % (((v859) : (List (Int × Int))).length : Int)))).1)) (setL ((itD ((itD (v1060) (((itD (v786) (5)) % (((v859) : (List (Int × Int))).length : Int))))) (((itD (v786) (6)) % (itD (v859) (((itD (v786) (5)) % (((v859) : (List (Int × Int))).length : Int)))).1)))) (((itD (v786) (7)) % (itD (v859) (((itD (v786) (5)) % (((v859) : (List (Int × Int))).length : Int)))).2)) (5)))) ((-1))) : (List (List Int))).map (oL oI)) := (OwAll.mono (Same.refl _) (keeps_same e1425) w1419)
            refine ⟨_, _, _, rfl, rfl, h1431, (app_len (OwAll.rpA w1432 (encO_L encO_I) S1429.sG) g1430), ?_⟩
            generalize g1433 : upd H1424 b1415 _ = H1434
            obtain ⟨x1435, h1436⟩ := gen_mut g1433
            have h1437 : H1434 b1415 = some (.lst (vs1416 ++ [V.ref p1421])) := h1436
            have S1438 := S1429.mut1 x1435 ((((fun b hb => (.tail _ (.tail _ (List.mem_append_right _ (.tail _ (.tail _ (.tail _ (.tail _ (.tail _ (List.mem_append_right _ (List.mem_append_left _ hb))))))))))) : ∀ b ∈ L1065, b ∈ (p1421 :: (D1163 :: (L1355 ++ (D892 :: (a1063 :: (p789 :: (x799 :: (p815 :: (L1052 ++ (L1065 ++ []))))))))))) : ∀ b ∈ L1065, b ∈ (p1421 :: (D1163 :: (L1355 ++ (D892 :: (a1063 :: (p789 :: (x799 :: (p815 :: (L1052 ++ (L1065 ++ []))))))))))) _ (hs1412 _ List.mem_cons_self)) h1437
            have w1439 : OwAll G1350 H1434 (L1417 ++ (p1421 :: ([] : List Addr))) (vs1416 ++ [V.ref p1421]) ((((itD (setL (v1060) (((itD (v786) (5)) % (((v859) : (List (Int × Int))).length : Int))) (setL ((itD (v1060) (((itD (v786) (5)) % (((v859) : (List (Int × Int))).length : Int))))) (((itD (v786) (6)) % (itD (v859) (((itD (v786) (5)) % (((v859) : (List (Int × Int))).length : Int)))).1)) (setL ((itD ((itD (v1060) (((itD (v786) (5)) % (((v859) : (List (Int × Int))).length : Int))))) (((itD (v786) (6)) % (itD (v859) (((itD (v786) (5)) % (((v859) : (List (Int × Int))).length : Int)))).1)))) (((itD (v786) (7)) % (itD (v859) (((itD (v786) (5)) % (((v859) : (List (Int × Int))).length : Int)))).2)) (5)))) ((-1)))) ++ [([] : (List Int))] : (List (List Int))).map (oL oI)) := OwAll.mono (Same.refl _) (keeps_mut x1435 ((all_app nb1420 (all_cons ((there_ne (fun b_ hb_ => (S1397.ow b_ (((fun b hb => (.tail _ (List.mem_append_right _ (.tail _ (.tail _ (.tail _ (.tail _ (.tail _ (List.mem_append_right _ (List.mem_append_left _ hb)))))))))) : ∀ b ∈ L1065, b ∈ (D1163 :: (L1355 ++ (D892 :: (a1063 :: (p789 :: (x799 :: (p815 :: (L1052 ++ (L1065 ++ [])))))))))) b_ hb_)).2.1) n1422) _ (hs1412 _ List.mem_cons_self)).symm all_nil)) : ∀ b ∈ (L1417 ++ (p1421 :: ([] : List Addr))), b ≠ b1415)) (OwAll.snocM w1432 (Ow.ints h1427) ((fun b hb => (nm_cons ((fun b hb => ((there_ne (fun b_ hb_ => (S1397.ow b_ (((fun b hb => (.tail _ (List.mem_append_right _ (.tail _ (.tail _ (.tail _ (.tail _ (.tail _ (List.mem_append_right _ (List.mem_append_left _ hb)))))))))) : ∀ b ∈ L1065, b ∈ (D1163 :: (L1355 ++ (D892 :: (a1063 :: (p789 :: (x799 :: (p815 :: (L1052 ++ (L1065 ++ [])))))))))) b_ hb_)).2.1) n1422) : ∀ b ∈ L1065, b ≠ p1421) b ((fun c hc => hs1412 c (List.mem_cons_of_mem _ hc)) b hb)) b hb) nm_nil)) : ∀ b ∈ L1417, b ∉ (p1421 :: ([] : List Addr))))
            obtain ⟨L1440, hL1441, w1442⟩ := gr1414 H1434 _ (p1421 :: ([] : List Addr)) (b1415 :: (L1417 ++ (p1421 :: ([] : List Addr)))) (grow_keeps e1425 x1435 List.mem_cons_self) (fun b hb => hb) ((all_cons (fun z => (there_ne (fun b_ hb_ => (S1397.ow b_ (((fun b hb => (.tail _ (List.mem_append_right _ (.tail _ (.tail _ (.tail _ (.tail _ (.tail _ (List.mem_append_right _ (List.mem_append_left _ hb)))))))))) : ∀ b ∈ L1065, b ∈ (D1163 :: (L1355 ++ (D892 :: (a1063 :: (p789 :: (x799 :: (p815 :: (L1052 ++ (L1065 ++ [])))))))))) b_ hb_)).2.1) n1422) _ z rfl) all_nil) : ∀ b ∈ (p1421 :: ([] : List Addr)), b ∉ L1065) (Ow.list h1437 w1439 ((all_app nb1420 (all_cons ((there_ne (fun b_ hb_ => (S1397.ow b_ (((fun b hb => (.tail _ (List.mem_append_right _ (.tail _ (.tail _ (.tail _ (.tail _ (.tail _ (List.mem_append_right _ (List.mem_append_left _ hb)))))))))) : ∀ b ∈ L1065, b ∈ (D1163 :: (L1355 ++ (D892 :: (a1063 :: (p789 :: (x799 :: (p815 :: (L1052 ++ (L1065 ++ [])))))))))) b_ hb_)).2.1) n1422) _ (hs1412 _ List.mem_cons_self)).symm all_nil)) : ∀ b ∈ (L1417 ++ (p1421 :: ([] : List Addr))), b ≠ b1415))
            have w1443 : OwAll G1350 H1434 L1440 (vs1064) ((setL (setL (v1060) (((itD (v786) (5)) % (((v859) : (List (Int × Int))).length : Int))) (setL ((itD (v1060) (((itD (v786) (5)) % (((v859) : (List (Int × Int))).length : Int))))) (((itD (v786) (6)) % (itD (v859) (((itD (v786) (5)) % (((v859) : (List (Int × Int))).length : Int)))).1)) (setL ((itD ((itD (v1060) (((itD (v786) (5)) % (((v859) : (List (Int × Int))).length : Int))))) (((itD (v786) (6)) % (itD (v859) (((itD (v786) (5)) % (((v859) : (List (Int × Int))).length : Int)))).1)))) (((itD (v786) (7)) % (itD (v859) (((itD (v786) (5)) % (((v859) : (List (Int × Int))).length : Int)))).2)) (5)))) ((-1)) (((itD (setL (v1060) (((itD (v786) (5)) % (((v859) : (List (Int × Int))).length : Int))) (setL ((itD (v1060) (((itD (v786) (5)) % (((v859) : (List (Int × Int))).length : Int))))) (((itD (v786) (6)) % (itD (v859) (((itD (v786) (5)) % (((v859) : (List (Int × Int))).length : Int)))).1)) (setL ((itD ((itD (v1060) (((itD (v786) (5)) % (((v859) : (List (Int × Int))).length : Int))))) (((itD (v786) (6)) % (itD (v859) (((itD (v786) (5)) % (((v859) : (List (Int × Int))).length : Int)))).1)))) (((itD (v786) (7)) % (itD (v859) (((itD (v786) (5)) % (((v859) : (List (Int × Int))).length : Int)))).2)) (5)))) ((-1)))) ++ [([] : (List Int))]) : (List (List (List Int)))).map (oL (oL oI))) := w1442
            have hw := cW_bnd hw
            have h1445 := (x1435 _ _ (e1425 _ _ (x1394 _ _ h1362 ((((fun b hb => ((new_ne2 nb1356 (S1154.ow _ (.tail _ (List.mem_append_right _ (.tail _ (List.mem_append_right _ (.tail _ (.head _))))))).2.1) : ∀ b ∈ L1355, b ≠ x799) b ((fun c hc => hs1372 c (List.mem_cons_of_mem _ hc)) b hb)) : ∀ b ∈ L1377, b ≠ x799) _ (hs1386 _ List.mem_cons_self))).symm)) ((new_ne2 nb1068 (S1045.ow _ (.tail _ (List.mem_append_right _ (.tail _ (.head _))))).2.1) _ (hs1412 _ List.mem_cons_self)).symm)
            refine ⟨_, rfl, _, rfl, rfl, rfl, G1350, _, _, v810, _, rfl, S1438.sG, (hide_nil h1445), cW_call hw (fun v1446 hw H1447 a1449 vs1450 L1451 G1452 n1453 nb1454 nd1455 e1448 eG1456 sG1457 hn1458 ga1459 gL1460 h1461 w1462 => ?_) (fun e he => (hE e he).elim)⟩
            have fr1463 := S1438.free n1453
            have S1464 : Sep _ _ _ _ H1447 (a1449 :: (L1451 ++ (p1421 :: (D1163 :: (L1355 ++ (D892 :: (a1063 :: (p789 :: (x799 :: (p815 :: (L1052 ++ (L1065 ++ [])))))))))))) := Sep.steptree S1438 e1448 eG1456 sG1457 hn1458 (a1449 :: L1451) (all_cons ⟨n1453, ga1459, some_ne h1461⟩ (fun b hb => ⟨nb1454 b hb, gL1460 b hb, OwAll.there w1462 b hb⟩))
            have h1465 := (e1448 _ _ (x1435 _ _ (e1425 _ _ (x1394 _ _ h1359 ((((fun b hb => ((new_ne2 nb1356 (S1154.ow _ (.tail _ (List.mem_append_right _ (.head _)))).2.1) : ∀ b ∈ L1355, b ≠ D892) b ((fun c hc => hs1372 c (List.mem_cons_of_mem _ hc)) b hb)) : ∀ b ∈ L1377, b ≠ D892) _ (hs1386 _ List.mem_cons_self))).symm)) ((new_ne2 nb1068 (S1045.ow _ (.head _)).2.1) _ (hs1412 _ List.mem_cons_self)).symm))
            have w1466 : OwAll G1452 H1447 L1052 (vs1050) ((acc1049 : (List (List (List Int)))).map (oL (oL oI))) := (OwAll.mono eG1456 keeps_refl (OwAll.mono (Same.refl _) (keeps_same e1448) (OwAll.mono (Same.refl _) (keeps_mut x1435 ((fun b hb z => (fun b hb => ((nl_symm (new_nl nb1068 (fun b_ hb_ => (S1045.ow b_ (((fun b hb => (.tail _ (List.mem_append_left _ hb))) : ∀ b ∈ L1052, b ∈ (D892 :: (L1052 ++ (p789 :: (x799 :: (p815 :: [])))))) b_ hb_)).2.1))) b hb)) b hb (z ▸ (hs1412 _ List.mem_cons_self))) : ∀ b ∈ L1052, b ≠ b1415)) (OwAll.mono (Same.refl _) (keeps_same e1425) (OwAll.mono (Same.refl _) (keeps_mut x1394 ((fun b hb z => (fun b hb => ((nl_symm (fun c hc => ((new_nl nb1356 (fun b_ hb_ => (S1154.ow b_ (((fun b hb => (.tail _ (List.mem_append_right _ (.tail _ (List.mem_append_left _ hb))))) : ∀ b ∈ L1052, b ∈ (a1063 :: (L1065 ++ (D892 :: (L1052 ++ (p789 :: (x799 :: (p815 :: [])))))))) b_ hb_)).2.1)) : ∀ c ∈ L1355, c ∉ L1052) c ((fun c hc => hs1372 c (List.mem_cons_of_mem _ hc)) c hc))) b hb)) b hb (z ▸ (hs1386 _ List.mem_cons_self))) : ∀ b ∈ L1052, b ≠ b1389)) w1364)))))
            refine ⟨_, rfl, _, _, (rp_mk_list h1461 (OwAll.rpA w1462 (encO_L (encO_L encO_I)) S1464.sG)), (rp_mk_list h1465 (OwAll.rpA w1466 (encO_L (encO_L encO_I)) S1464.sG)), _, rfl, ?_⟩
            refine iteN (fun c1467 => ?_) (fun c1467 => ?_)
            · have hw := cW_neg c1467 hw
              have hw := cW_ok hw
              have hw := hK856 (.rt _) hw
              have hw := hK829 (.rt _) hw
              have hw := cW_ok hw
              exact eq_bl (k _) (hK0 _ hw).symm
            · have hw := cW_pos c1467 hw
              have hw := cW_ok hw
              have hw := hK856 _ hw
              have h1468 := (e1448 _ _ (x1435 _ _ (e1425 _ _ (x1394 _ _ h1361 ((((fun b hb => ((new_ne2 nb1356 (S1154.ow _ (.tail _ (List.mem_append_right _ (.tail _ (List.mem_append_right _ (.head _)))))).2.1) : ∀ b ∈ L1355, b ≠ p789) b ((fun c hc => hs1372 c (List.mem_cons_of_mem _ hc)) b hb)) : ∀ b ∈ L1377, b ≠ p789) _ (hs1386 _ List.mem_cons_self))).symm)) ((new_ne2 nb1068 (S1045.ow _ (.tail _ (List.mem_append_right _ (.head _)))).2.1) _ (hs1412 _ List.mem_cons_self)).symm))
              have h1469 := (e1448 _ _ h1445)
              have h1470 := (e1448 _ _ (x1435 _ _ (e1425 _ _ (x1394 _ _ h1363 ((((fun b hb => ((new_ne2 nb1356 (S1154.ow _ (.tail _ (List.mem_append_right _ (.tail _ (List.mem_append_right _ (.tail _ (.tail _ (.head _)))))))).2.1) : ∀ b ∈ L1355, b ≠ p815) b ((fun c hc => hs1372 c (List.mem_cons_of_mem _ hc)) b hb)) : ∀ b ∈ L1377, b ≠ p815) _ (hs1386 _ List.mem_cons_self))).symm)) ((new_ne2 nb1068 (S1045.ow _ (.tail _ (List.mem_append_right _ (.tail _ (.tail _ (.head _)))))).2.1) _ (hs1412 _ List.mem_cons_self)).symm))
              exact ⟨_, _, _, _, _, _, _, _, _, rfl, (Same.trans (Same.trans (Same.trans (Same.trans (Same.trans (Same.trans (Same.trans eG853 eG864) eG879) eG1048) eG1070) eG1120) eG1351) eG1456), (S1464.sub (all_cons (.tail _ (List.mem_append_right _ (.tail _ (.tail _ (List.mem_append_right _ (.tail _ (.tail _ (.head _)))))))) (all_cons (.tail _ (List.mem_append_right _ (.tail _ (.tail _ (List.mem_append_right _ (.tail _ (.tail _ (.tail _ (.head _))))))))) (all_cons (.tail _ (List.mem_append_right _ (.tail _ (.tail _ (List.mem_append_right _ (.tail _ (.tail _ (.tail _ (.tail _ (.head _)))))))))) all_nil)))), h1468, h1469, h1470, hw⟩
    · intro σ H1471 hw
      obtain ⟨u830, u831, u832, u833, u834, u835, u836, u837, G1476, rfl, eG1477, S1472, h1473, h1474, h1475, hw⟩ := hw
      have hw := cW_aftgo (hK829 _ (cW_forR0 (by rw [List.length_map]) hw))
      have hw : cW (F_law_r1 (v786) (v810) ) _ EE := hw
      unfold F_law_r1 at hw
      obtain ⟨g1478, hw⟩ := cW_grd hw
      refine ⟨_, rfl, _, _, _, _, rfl, rfl, (SqL.of h1473), (atI_map g1478), _, _, rfl, rfl, ?_⟩
      have hw := cW_bnd hw
      refine ⟨_, rfl, _, _, rfl, rfl, _, rfl, ?_⟩
      refine iteB (fun c1480 => ?_) (fun c1480 => ?_)
      · have hw := cW_pos c1480 hw
        have hw := cW_ok hw
        exact eq_bl (k _) (hK0 _ hw).symm
      · have hw := cW_negB c1480 hw
        refine ⟨_, rfl, _, _, rfl, rfl, _, rfl, ?_⟩
        refine iteB (fun c1481 => ?_) (fun c1481 => ?_)
        · have hw := cW_pos c1481 hw
          have hw := cW_ok hw
          exact eq_bl (k _) (hK0 _ hw).symm
        · have hw := cW_negB c1481 hw
          refine ⟨_, rfl, _, rfl, rfl, rfl, G1476, _, _, v810, _, rfl, S1472.sG, (hide_nil h1474), cW_call hw (fun v1482 hw H1483 e1484 => ?_) (fun e he => (hE e he).elim)⟩
          have S1485 := S1472.same e1484
          have hw := cW_ok hw
          exact eq_bl (k _) (hK0 _ hw).symm
end
def spL (K : PySem.W.Frag) : Sp := fun vs H Q _ => ∃ (a_script : Addr) (script : List Int), vs = [.ref a_script] ∧ SqL K H a_script (script.map V.int) ∧ script.length ≤ 63 ∧ ∀ H', Q (.bl true) H'
theorem all_mk {l : PySem.W.OpenLaw} {w : World} {K : PySem.W.Frag} {h : Heap} {mg : Str → Option Value} {fa : Addr} (X : K.In h) (G : h.Ns mainGlobals mg) (hfa : mg "law" = some (.ref fa))
    {f0 f1 f2 f3 f4 f5 f6 f7 f8 CFormat XCodecError XBadFormat XOutOfRange XBadData : Addr} {od0 an0 od1 an1 od2 an2 od3 an3 od4 an4 od5 an5 od6 an6 od7 an7 od8 an8 : Option Addr} {sl0 sl1 sl2 sl3 sl4 sl5 sl6 sl7 sl8 : Array (Option Value)} {oc0 kV0 dc0 pm0 cd0 ct0 oc1 dc1 pm1 cd1 ct1 oc2 kV2 dc2 pm2 cd2 ct2 oc3 kV3 dc3 pm3 cd3 ct3 oc4 kV4 dc4 pm4 cd4 ct4 oc5 kV5 dc5 pm5 cd5 ct5 oc6 kV6 dc6 pm6 cd6 ct6 oc7 kV7 dc7 pm7 cd7 ct7 oc8 kV8 dc8 pm8 cd8 ct8 : Value} {D1 : Addr} {ktk1_0 : Tok} {ktk1_1 : Tok} {q4 : Addr} {rs4 : List Value}
    (wFormat : PySem.W.nsIn K mainGlobals "Format" = some (some (.ref CFormat))) (vCodecError : PySem.W.nsIn K mainGlobals "CodecError" = some (some (.ref XCodecError))) (vBadFormat : PySem.W.nsIn K mainGlobals "BadFormat" = some (some (.ref XBadFormat))) (vOutOfRange : PySem.W.nsIn K mainGlobals "OutOfRange" = some (some (.ref XOutOfRange))) (vBadData : PySem.W.nsIn K mainGlobals "BadData" = some (some (.ref XBadData))) (a0 : PySem.W.nsIn K mainGlobals "_law_draws" = some (some (.ref f0))) (l0 : K.lookup f0 = some ⟨oc0, od0, .func (PySem.W.fnOf "_law_draws" "_law_draws" (defArgs s__law_draws) (defBody s__law_draws) (defScope s__law_draws) .none kV0 dc0 pm0 an0 cd0 ct0), sl0⟩) (c0 : PySem.W.codeIn K cd0 "_law_draws" = true) (k0 : PySem.W.keepIn K (.ref f0) = true) (a1 : PySem.W.findIn K (.ref CFormat) "__init__" = some (some (.ref f1))) (b1 : PySem.W.isFn K (.ref f1) = true) (d1 : PySem.W.makesIn K CFormat = true) (e1 : PySem.W.keepIn K (.ref CFormat) = true) (l1 : K.lookup f1 = some ⟨oc1, od1, .func (PySem.W.fnOf "__init__" "Format.__init__" (defArgs s_Format___init__) (defBody s_Format___init__) (defScope s_Format___init__) .none (.ref D1) dc1 pm1 an1 cd1 ct1), sl1⟩) (c1 : PySem.W.codeIn K cd1 "Format.__init__" = true) (k1 : PySem.W.keepIn K (.ref f1) = true) (kd1_0 : PySem.W.nsIn K D1 "depth" = some (some (.int 8 ktk1_0))) (kd1_1 : PySem.W.nsIn K D1 "chroma" = some (some (.int 0 ktk1_1))) (a2 : PySem.W.nsIn K mainGlobals "_law_cell" = some (some (.ref f2))) (l2 : K.lookup f2 = some ⟨oc2, od2, .func (PySem.W.fnOf "_law_cell" "_law_cell" (defArgs s__law_cell) (defBody s__law_cell) (defScope s__law_cell) .none kV2 dc2 pm2 an2 cd2 ct2), sl2⟩) (c2 : PySem.W.codeIn K cd2 "_law_cell" = true) (k2 : PySem.W.keepIn K (.ref f2) = true) (a3 : PySem.W.nsIn K mainGlobals "_law_shape" = some (some (.ref f3))) (l3 : K.lookup f3 = some ⟨oc3, od3, .func (PySem.W.fnOf "_law_shape" "_law_shape" (defArgs s__law_shape) (defBody s__law_shape) (defScope s__law_shape) .none kV3 dc3 pm3 an3 cd3 ct3), sl3⟩) (c3 : PySem.W.codeIn K cd3 "_law_shape" = true) (k3 : PySem.W.keepIn K (.ref f3) = true) (a4 : PySem.W.findIn K (.ref CFormat) "planes" = some (some (.ref q4))) (b4 : PySem.W.specialIn K (.ref q4) "__get__" = some (some (.builtin "property.__get__"))) (d4 : PySem.W.takesIn K (.ref q4) = some true) (e4 : PySem.W.recIn K q4 "property" = some (.ref f4 :: rs4)) (l4 : K.lookup f4 = some ⟨oc4, od4, .func (PySem.W.fnOf "planes" "Format.planes" (defArgs s_Format_planes) (defBody s_Format_planes) (defScope s_Format_planes) .none kV4 dc4 pm4 an4 cd4 ct4), sl4⟩) (c4 : PySem.W.codeIn K cd4 "Format.planes" = true) (k4 : PySem.W.keepIn K (.ref f4) = true) (a5 : PySem.W.nsIn K mainGlobals "level_shape" = some (some (.ref f5))) (l5 : K.lookup f5 = some ⟨oc5, od5, .func (PySem.W.fnOf "level_shape" "level_shape" (defArgs s_level_shape) (defBody s_level_shape) (defScope s_level_shape) .none kV5 dc5 pm5 an5 cd5 ct5), sl5⟩) (c5 : PySem.W.codeIn K cd5 "level_shape" = true) (k5 : PySem.W.keepIn K (.ref f5) = true) (a6 : PySem.W.nsIn K mainGlobals "zero_levels" = some (some (.ref f6))) (l6 : K.lookup f6 = some ⟨oc6, od6, .func (PySem.W.fnOf "zero_levels" "zero_levels" (defArgs s_zero_levels) (defBody s_zero_levels) (defScope s_zero_levels) .none kV6 dc6 pm6 an6 cd6 ct6), sl6⟩) (c6 : PySem.W.codeIn K cd6 "zero_levels" = true) (k6 : PySem.W.keepIn K (.ref f6) = true) (a7 : PySem.W.nsIn K mainGlobals "_law_refused" = some (some (.ref f7))) (l7 : K.lookup f7 = some ⟨oc7, od7, .func (PySem.W.fnOf "_law_refused" "_law_refused" (defArgs s__law_refused) (defBody s__law_refused) (defScope s__law_refused) .none kV7 dc7 pm7 an7 cd7 ct7), sl7⟩) (c7 : PySem.W.codeIn K cd7 "_law_refused" = true) (k7 : PySem.W.keepIn K (.ref f7) = true) (a8 : PySem.W.nsIn K mainGlobals "law" = some (some (.ref f8))) (l8 : K.lookup f8 = some ⟨oc8, od8, .func (PySem.W.fnOf "law" "law" (defArgs s_law) (defBody s_law) (defScope s_law) .none kV8 dc8 pm8 an8 cd8 ct8), sl8⟩) (c8 : PySem.W.codeIn K cd8 "law" = true) (k8 : PySem.W.keepIn K (.ref f8) = true)
    (z0 : PySem.W.nsIn K mainGlobals "abs" = some none) (z1 : PySem.W.nsIn K mainGlobals "int" = some none) (z2 : PySem.W.nsIn K mainGlobals "len" = some none) (z3 : PySem.W.nsIn K mainGlobals "range" = some none) (z4 : PySem.W.nsIn K mainGlobals "isinstance" = some none) (z5 : PySem.W.nsIn K mainGlobals "list" = some none) (yFormat0 : PySem.W.plainGet K CFormat Str.empty = true) (yFormat1 : PySem.W.hasDictIn K CFormat = true) (yFormat2 : PySem.W.plainOver K CFormat = true) (yFormat3 : PySem.W.findIn K (.ref CFormat) "__setattr__" = some (some (.builtin "object.__setattr__"))) (xFormat0 : PySem.W.findIn K (.ref CFormat) "width" = some none) (xFormat1 : PySem.W.findIn K (.ref CFormat) "height" = some none) (xFormat2 : PySem.W.findIn K (.ref CFormat) "depth" = some none) (xFormat3 : PySem.W.findIn K (.ref CFormat) "chroma" = some none) (exBadFormat : PySem.W.excIn K XBadFormat [.type "ValueError", .type "Exception", .type "BaseException", .type "object"] "ValueError.__new__" = true) (ekBadFormat : PySem.W.keepIn K (.ref XBadFormat) = true) (ebBadFormat : PySem.W.subIn K (.ref XBadFormat) (.type "BaseException") = some true) (etBadFormat : PySem.W.typeIn K (.ref XBadFormat) = some (.type "type")) (exOutOfRange : PySem.W.excIn K XOutOfRange [.type "ValueError", .type "Exception", .type "BaseException", .type "object"] "ValueError.__new__" = true) (ekOutOfRange : PySem.W.keepIn K (.ref XOutOfRange) = true) (ebOutOfRange : PySem.W.subIn K (.ref XOutOfRange) (.type "BaseException") = some true) (etOutOfRange : PySem.W.typeIn K (.ref XOutOfRange) = some (.type "type")) (exBadData : PySem.W.excIn K XBadData [.type "ValueError", .type "Exception", .type "BaseException", .type "object"] "ValueError.__new__" = true) (ekBadData : PySem.W.keepIn K (.ref XBadData) = true) (ebBadData : PySem.W.subIn K (.ref XBadData) (.type "BaseException") = some true) (etBadData : PySem.W.typeIn K (.ref XBadData) = some (.type "type")) (exCodecError : PySem.W.excIn K XCodecError [.type "ValueError", .type "Exception", .type "BaseException", .type "object"] "ValueError.__new__" = true) (ekCodecError : PySem.W.keepIn K (.ref XCodecError) = true) (ebCodecError : PySem.W.subIn K (.ref XCodecError) (.type "BaseException") = some true) (etCodecError : PySem.W.typeIn K (.ref XCodecError) = some (.type "type")) (eiOutOfRangeOutOfRange : PySem.W.isClsIn K XOutOfRange = true) (esOutOfRangeOutOfRange : PySem.W.subIn K (.ref XOutOfRange) (.ref XOutOfRange) = some true) (eiOutOfRangeCodecError : PySem.W.isClsIn K XCodecError = true) (esOutOfRangeCodecError : PySem.W.subIn K (.ref XOutOfRange) (.ref XCodecError) = some true) (enOutOfRangeBadData : (Value.ref XOutOfRange == Value.ref XBadData) = false) (ejOutOfRangeBadData : PySem.W.isClsIn K XBadData = true) (etOutOfRangeBadData : PySem.W.subIn K (.ref XOutOfRange) (.ref XBadData) = some false) (c1OutOfRange : PySem.W.findIn K (.ref XOutOfRange) "__getattribute__" = some (some (.builtin "BaseException.__getattribute__"))) (c2OutOfRange : PySem.W.findIn K (.ref XOutOfRange) "__getattr__" = some none) (c3OutOfRange : PySem.W.hasDictIn K XOutOfRange = true) (c4OutOfRange : PySem.W.findIn K (.ref XOutOfRange) "__class__" = some (some (.builtin "object.__class__"))) (c5OutOfRange : PySem.W.specialIn K (.builtin "object.__class__") "__get__" = some (some (.builtin "getset_descriptor.__get__"))) (c6OutOfRange : PySem.W.takesIn K (.builtin "object.__class__") = some true) (c7OutOfRange : PySem.W.mroIn K XOutOfRange (.type "object") = some true) :
    ∃ fd : FuncData, (∀ (s : Shared) (v : Value), BindsTo s fd ⟨[v], []⟩ [("script", v)]) ∧ ∀ base : Heap, K.In base → base.Ns mainGlobals mg → FnG l.prog w K mg base CX0 6 fa fd ["script"] (spL K) := by
  have e := hfa.symm.trans (PySem.W.mg_of X G a8)
  cases e
  have T : Txt K mg ⟨CFormat, XCodecError, XBadFormat, XOutOfRange, XBadData, fa⟩ := ⟨PySem.W.mg_none_of X G z0, PySem.W.mg_none_of X G z1, PySem.W.mg_none_of X G z2, PySem.W.mg_none_of X G z3, PySem.W.mg_none_of X G z4, PySem.W.mg_none_of X G z5, ⟨yFormat0, yFormat1, yFormat2, yFormat3⟩, xFormat0, xFormat1, xFormat2, xFormat3, PySem.W.mg_of X G vBadFormat, exBadFormat, ekBadFormat, ebBadFormat, etBadFormat, PySem.W.mg_of X G vOutOfRange, exOutOfRange, ekOutOfRange, ebOutOfRange, etOutOfRange, PySem.W.mg_of X G vBadData, exBadData, ekBadData, ebBadData, etBadData, PySem.W.mg_of X G vCodecError, exCodecError, ekCodecError, ebCodecError, etCodecError, exm_mk ebOutOfRange eiOutOfRangeOutOfRange etOutOfRange esOutOfRangeOutOfRange, kit_mk eiOutOfRangeCodecError etCodecError esOutOfRangeCodecError, kit_mk0 enOutOfRangeBadData ejOutOfRangeBadData etBadData etOutOfRangeBadData, ⟨c1OutOfRange, c2OutOfRange, ebOutOfRange, c3OutOfRange, c4OutOfRange, c5OutOfRange, c6OutOfRange, c7OutOfRange⟩⟩
  have F0 : FunD K "_law_draws" "_law_draws" (defArgs s__law_draws) (defBody s__law_draws) (defScope s__law_draws) [] [] f0 _ := ⟨⟨_, _, _, _, _, _, _, _, _, _, rfl, l0, c0, .inl ⟨rfl, rfl⟩, .inl rfl⟩, k0⟩
  have D_0 : DefX K mg "_law_draws" s__law_draws ["cell", "limits"] pats__law_draws := ⟨_, _, _, _, F0, PySem.W.mg_of X G a0, (all_consQ (Bnd.all fun us ws vs zs l1 l2 r rz => by
      obtain ⟨u0, u1, rfl⟩ := len2 (r.length.symm.trans l1)
      obtain rfl := len0 (rz.length.symm.trans l2)
      cases r with | cons r0 r =>
        cases r with | cons r1 r =>
          cases r
          cases rz
          exact ⟨[u0, u1], rfl, (.cons r0 (.cons r1 .nil))⟩) all_nilQ)⟩
  have F1 : FunD K "__init__" "Format.__init__" (defArgs s_Format___init__) (defBody s_Format___init__) (defScope s_Format___init__) [] [("depth", V.int 8), ("chroma", V.int 0)] f1 _ := ⟨⟨_, _, _, _, _, _, _, _, _, _, rfl, l1, c1, .inl ⟨rfl, rfl⟩, (.inr ⟨_, rfl, (all_consQ ⟨_, kd1_0, ⟨_, rfl⟩⟩ (all_consQ ⟨_, kd1_1, ⟨_, rfl⟩⟩ all_nilQ))⟩)⟩, k1⟩
  have D_1 : InitX K mg CFormat "Format" "Format.__init__" s_Format___init__ ["self", "width", "height", "depth", "chroma"] pats_Format___init__ := ⟨_, _, _, _, F1, ⟨d1, a1, b1, e1⟩, PySem.W.mg_of X G wFormat, (all_consQ (Bnd.all fun us ws vs zs l1 l2 r rz => by
      obtain ⟨u0, u1, u2, rfl⟩ := len3 (r.length.symm.trans l1)
      obtain ⟨w0, w1, rfl⟩ := len2 (rz.length.symm.trans l2)
      cases r with | cons r0 r =>
        cases r with | cons r1 r =>
          cases r with | cons r2 r =>
            cases r
            cases rz with | cons q0 rz =>
              cases rz with | cons q1 rz =>
                cases rz
                exact ⟨[u0, u1, u2, w0, w1], rfl, (.cons r0 (.cons r1 (.cons r2 (.cons q0 (.cons q1 .nil)))))⟩) all_nilQ)⟩
  have F2 : FunD K "_law_cell" "_law_cell" (defArgs s__law_cell) (defBody s__law_cell) (defScope s__law_cell) [] [] f2 _ := ⟨⟨_, _, _, _, _, _, _, _, _, _, rfl, l2, c2, .inl ⟨rfl, rfl⟩, .inl rfl⟩, k2⟩
  have D_2 : DefX K mg "_law_cell" s__law_cell ["script", "k"] pats__law_cell := ⟨_, _, _, _, F2, PySem.W.mg_of X G a2, (all_consQ (Bnd.all fun us ws vs zs l1 l2 r rz => by
      obtain ⟨u0, u1, rfl⟩ := len2 (r.length.symm.trans l1)
      obtain rfl := len0 (rz.length.symm.trans l2)
      cases r with | cons r0 r =>
        cases r with | cons r1 r =>
          cases r
          cases rz
          exact ⟨[u0, u1], rfl, (.cons r0 (.cons r1 .nil))⟩) all_nilQ)⟩
  have F3 : FunD K "_law_shape" "_law_shape" (defArgs s__law_shape) (defBody s__law_shape) (defScope s__law_shape) [] [] f3 _ := ⟨⟨_, _, _, _, _, _, _, _, _, _, rfl, l3, c3, .inl ⟨rfl, rfl⟩, .inl rfl⟩, k3⟩
  have D_3 : DefX K mg "_law_shape" s__law_shape ["chroma", "size"] pats__law_shape := ⟨_, _, _, _, F3, PySem.W.mg_of X G a3, (all_consQ (Bnd.all fun us ws vs zs l1 l2 r rz => by
      obtain ⟨u0, u1, rfl⟩ := len2 (r.length.symm.trans l1)
      obtain rfl := len0 (rz.length.symm.trans l2)
      cases r with | cons r0 r =>
        cases r with | cons r1 r =>
          cases r
          cases rz
          exact ⟨[u0, u1], rfl, (.cons r0 (.cons r1 .nil))⟩) all_nilQ)⟩
  have F4 : FunD K "planes" "Format.planes" (defArgs s_Format_planes) (defBody s_Format_planes) (defScope s_Format_planes) [] [] f4 _ := ⟨⟨_, _, _, _, _, _, _, _, _, _, rfl, l4, c4, .inl ⟨rfl, rfl⟩, .inl rfl⟩, k4⟩
  have D_4 : PropX K CFormat "Format.planes" "planes" s_Format_planes ["self"] pats_Format_planes := ⟨_, _, _, _, _, F4, ⟨a4, b4, d4, _, e4⟩, FunD.bindsN F4 (fun _ _ _ _ _ _ us h => by obtain ⟨u0, rfl⟩ := len1 h; rfl)⟩
  have F5 : FunD K "level_shape" "level_shape" (defArgs s_level_shape) (defBody s_level_shape) (defScope s_level_shape) [] [] f5 _ := ⟨⟨_, _, _, _, _, _, _, _, _, _, rfl, l5, c5, .inl ⟨rfl, rfl⟩, .inl rfl⟩, k5⟩
  have D_5 : DefX K mg "level_shape" s_level_shape ["fmt", "size"] pats_level_shape := ⟨_, _, _, _, F5, PySem.W.mg_of X G a5, (all_consQ (Bnd.all fun us ws vs zs l1 l2 r rz => by
      obtain ⟨u0, u1, rfl⟩ := len2 (r.length.symm.trans l1)
      obtain rfl := len0 (rz.length.symm.trans l2)
      cases r with | cons r0 r =>
        cases r with | cons r1 r =>
          cases r
          cases rz
          exact ⟨[u0, u1], rfl, (.cons r0 (.cons r1 .nil))⟩) all_nilQ)⟩
  have F6 : FunD K "zero_levels" "zero_levels" (defArgs s_zero_levels) (defBody s_zero_levels) (defScope s_zero_levels) [] [] f6 _ := ⟨⟨_, _, _, _, _, _, _, _, _, _, rfl, l6, c6, .inl ⟨rfl, rfl⟩, .inl rfl⟩, k6⟩
  have D_6 : DefX K mg "zero_levels" s_zero_levels ["fmt", "size"] pats_zero_levels := ⟨_, _, _, _, F6, PySem.W.mg_of X G a6, (all_consQ (Bnd.all fun us ws vs zs l1 l2 r rz => by
      obtain ⟨u0, u1, rfl⟩ := len2 (r.length.symm.trans l1)
      obtain rfl := len0 (rz.length.symm.trans l2)
      cases r with | cons r0 r =>
        cases r with | cons r1 r =>
          cases r
          cases rz
          exact ⟨[u0, u1], rfl, (.cons r0 (.cons r1 .nil))⟩) all_nilQ)⟩
  have F7 : FunD K "_law_refused" "_law_refused" (defArgs s__law_refused) (defBody s__law_refused) (defScope s__law_refused) [] [] f7 _ := ⟨⟨_, _, _, _, _, _, _, _, _, _, rfl, l7, c7, .inl ⟨rfl, rfl⟩, .inl rfl⟩, k7⟩
  have D_7 : DefX K mg "_law_refused" s__law_refused ["fmt", "size"] pats__law_refused := ⟨_, _, _, _, F7, PySem.W.mg_of X G a7, (all_consQ (Bnd.all fun us ws vs zs l1 l2 r rz => by
      obtain ⟨u0, u1, rfl⟩ := len2 (r.length.symm.trans l1)
      obtain rfl := len0 (rz.length.symm.trans l2)
      cases r with | cons r0 r =>
        cases r with | cons r1 r =>
          cases r
          cases rz
          exact ⟨[u0, u1], rfl, (.cons r0 (.cons r1 .nil))⟩) all_nilQ)⟩
  have F8 : FunD K "law" "law" (defArgs s_law) (defBody s_law) (defScope s_law) [] [] _ _ := ⟨⟨_, _, _, _, _, _, _, _, _, _, rfl, l8, c8, .inl ⟨rfl, rfl⟩, .inl rfl⟩, k8⟩
  have R__law_draws : ∀ base : Heap, CalX l.prog w K mg base 1 "_law_draws" (sp__law_draws K ⟨CFormat, XCodecError, XBadFormat, XOutOfRange, XBadData, fa⟩) pats__law_draws := fun base => ok__law_draws D_0 T 
  have R_Format___init__ : ∀ base : Heap, MakX l.prog w K mg base 1 "Format" (⟨CFormat, XCodecError, XBadFormat, XOutOfRange, XBadData, fa⟩ : Ads).c_Format (sp_Format___init__ K ⟨CFormat, XCodecError, XBadFormat, XOutOfRange, XBadData, fa⟩) pats_Format___init__ := fun base => ok_Format___init__ D_1 T 
  have R__law_cell : ∀ base : Heap, CalX l.prog w K mg base 1 "_law_cell" (sp__law_cell K ⟨CFormat, XCodecError, XBadFormat, XOutOfRange, XBadData, fa⟩) pats__law_cell := fun base => ok__law_cell D_2 T 
  have R__law_shape : ∀ base : Heap, CalX l.prog w K mg base 1 "_law_shape" (sp__law_shape K ⟨CFormat, XCodecError, XBadFormat, XOutOfRange, XBadData, fa⟩) pats__law_shape := fun base => ok__law_shape D_3 T 
  have R_Format_planes : ∀ base : Heap, PropY l.prog w K mg base 1 (⟨CFormat, XCodecError, XBadFormat, XOutOfRange, XBadData, fa⟩ : Ads).c_Format "planes" (sp_Format_planes K ⟨CFormat, XCodecError, XBadFormat, XOutOfRange, XBadData, fa⟩) pats_Format_planes := fun base => ok_Format_planes D_4 T 
  have R_level_shape : ∀ base : Heap, CalX l.prog w K mg base 3 "level_shape" (sp_level_shape K ⟨CFormat, XCodecError, XBadFormat, XOutOfRange, XBadData, fa⟩) pats_level_shape := fun base => ok_level_shape D_5 T (R_Format_planes base)
  have R_zero_levels : ∀ base : Heap, CalX l.prog w K mg base 4 "zero_levels" (sp_zero_levels K ⟨CFormat, XCodecError, XBadFormat, XOutOfRange, XBadData, fa⟩) pats_zero_levels := fun base => ok_zero_levels D_6 T (R_level_shape base)
  have R__law_refused : ∀ base : Heap, CalX l.prog w K mg base 5 "_law_refused" (sp__law_refused K ⟨CFormat, XCodecError, XBadFormat, XOutOfRange, XBadData, fa⟩) pats__law_refused := fun base => ok__law_refused D_7 T (R_level_shape base) (R_zero_levels base)

  refine ⟨PySem.W.fnOf "law" "law" (defArgs s_law) (defBody s_law) (defScope s_law) .none kV8 dc8 pm8 an8 cd8 ct8, fun s v => .of_eq rfl, fun base _ _ => (ok_law (AD := ⟨CFormat, XCodecError, XBadFormat, XOutOfRange, XBadData, fa⟩) F8 T (R__law_draws base) (R__law_cell base) (R_Format___init__ base) (R__law_shape base) (R_level_shape base) (R_zero_levels base) (R__law_refused base)).imp ?_⟩
  rintro vs H Q E ⟨a, xs, rfl, hs, hl, q⟩
  exact ⟨a, xs, rfl, hs, by rw [law_true xs hl]; exact cW_mk rfl, q⟩
end Vx
open PySem PySem.W PyProof.Rows
set_option maxRecDepth 100000 in
set_option maxHeartbeats 0 in
theorem PySem.Challenge.cw_thaumatrope_k26_levels_have_shapes_holds : PySem.Challenge.rw_thaumatrope_k26_levels_have_shapes.Holds := by
  w_on; o_law; k_head; (case hw => w_witness2)
  k_fill
  refine Vx.walkG (l := PySem.Challenge.rw_thaumatrope_k26_levels_have_shapes) (n := 63) (k := 6) (x := "script") rfl (by decide) rfl ⟨rfl, by decide, by decide⟩ (fun w h Y => PySem.W.kIn_of Y) ?F
  case F =>
    intro w mg fa h KX G hmg
    refine' Vx.all_mk KX G hmg ?wFormat ?vCodecError ?vBadFormat ?vOutOfRange ?vBadData ?a0 ?l0 ?c0 ?k0 ?a1 ?b1 ?d1 ?e1 ?l1 ?c1 ?k1 ?kd1_0 ?kd1_1 ?a2 ?l2 ?c2 ?k2 ?a3 ?l3 ?c3 ?k3 ?a4 ?b4 ?d4 ?e4 ?l4 ?c4 ?k4 ?a5 ?l5 ?c5 ?k5 ?a6 ?l6 ?c6 ?k6 ?a7 ?l7 ?c7 ?k7 ?a8 ?l8 ?c8 ?k8 ?z0 ?z1 ?z2 ?z3 ?z4 ?z5 ?yFormat0 ?yFormat1 ?yFormat2 ?yFormat3 ?xFormat0 ?xFormat1 ?xFormat2 ?xFormat3 ?exBadFormat ?ekBadFormat ?ebBadFormat ?etBadFormat ?exOutOfRange ?ekOutOfRange ?ebOutOfRange ?etOutOfRange ?exBadData ?ekBadData ?ebBadData ?etBadData ?exCodecError ?ekCodecError ?ebCodecError ?etCodecError ?eiOutOfRangeOutOfRange ?esOutOfRangeOutOfRange ?eiOutOfRangeCodecError ?esOutOfRangeCodecError ?enOutOfRangeBadData ?ejOutOfRangeBadData ?etOutOfRangeBadData ?c1OutOfRange ?c2OutOfRange ?c3OutOfRange ?c4OutOfRange ?c5OutOfRange ?c6OutOfRange ?c7OutOfRange
    (case wFormat => k_is)
    (case vCodecError => k_is)
    (case vBadFormat => k_is)
    (case vOutOfRange => k_is)
    (case vBadData => k_is)
    (case a0 => k_is)
    (case l0 => k_is)
    (case c0 => k_is)
    (case k0 => k_is)
    (case a1 => k_is)
    (case b1 => k_is)
    (case d1 => k_is)
    (case e1 => k_is)
    (case l1 => k_is)
    (case c1 => k_is)
    (case k1 => k_is)
    (case kd1_0 => k_is)
    (case kd1_1 => k_is)
    (case a2 => k_is)
    (case l2 => k_is)
    (case c2 => k_is)
    (case k2 => k_is)
    (case a3 => k_is)
    (case l3 => k_is)
    (case c3 => k_is)
    (case k3 => k_is)
    (case a4 => k_is)
    (case b4 => k_is)
    (case d4 => k_is)
    (case e4 => k_is)
    (case l4 => k_is)
    (case c4 => k_is)
    (case k4 => k_is)
    (case a5 => k_is)
    (case l5 => k_is)
    (case c5 => k_is)
    (case k5 => k_is)
    (case a6 => k_is)
    (case l6 => k_is)
    (case c6 => k_is)
    (case k6 => k_is)
    (case a7 => k_is)
    (case l7 => k_is)
    (case c7 => k_is)
    (case k7 => k_is)
    (case a8 => k_is)
    (case l8 => k_is)
    (case c8 => k_is)
    (case k8 => k_is)
    (case z0 => k_is)
    (case z1 => k_is)
    (case z2 => k_is)
    (case z3 => k_is)
    (case z4 => k_is)
    (case z5 => k_is)
    (case yFormat0 => k_is)
    (case yFormat1 => k_is)
    (case yFormat2 => k_is)
    (case yFormat3 => k_is)
    (case xFormat0 => k_is)
    (case xFormat1 => k_is)
    (case xFormat2 => k_is)
    (case xFormat3 => k_is)
    (case exBadFormat => k_exc)
    (case ekBadFormat => k_is)
    (case ebBadFormat => k_is)
    (case etBadFormat => k_is)
    (case exOutOfRange => k_exc)
    (case ekOutOfRange => k_is)
    (case ebOutOfRange => k_is)
    (case etOutOfRange => k_is)
    (case exBadData => k_exc)
    (case ekBadData => k_is)
    (case ebBadData => k_is)
    (case etBadData => k_is)
    (case exCodecError => k_exc)
    (case ekCodecError => k_is)
    (case ebCodecError => k_is)
    (case etCodecError => k_is)
    (case eiOutOfRangeOutOfRange => k_is)
    (case esOutOfRangeOutOfRange => first | rfl | k_is)
    (case eiOutOfRangeCodecError => k_is)
    (case esOutOfRangeCodecError => first | rfl | k_is)
    (case enOutOfRangeBadData => rfl)
    (case ejOutOfRangeBadData => k_is)
    (case etOutOfRangeBadData => k_is)
    (case c1OutOfRange => k_is)
    (case c2OutOfRange => k_is)
    (case c3OutOfRange => k_is)
    (case c4OutOfRange => k_is)
    (case c5OutOfRange => k_is)
    (case c6OutOfRange => k_is)
    (case c7OutOfRange => k_is)
