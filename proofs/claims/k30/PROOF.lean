import PyProof.Rows.All
import Wide.All
import OpenK.AllK
import Wide.FinOn
import HandS.ForMost
import HandS.Codes
import HandS.Steps
import HandS.IsInst
import HandS.Property
import HandS.Wide
import HandS.WideBits
import HandS.Exc
import HandS.Defaults
import HandS.ExcOwn
import HandS.TryOnly
import HandS.WordsExc
import HandS.ExcIs
import HandS.MakeKwOnly
import HandS.RaiseMore
import HandS.Style
import HandS.Zip
import HandS.Iter
import PySem.Challenge.RW_thaumatrope_k30_areas_predicted
set_option Elab.async false
set_option linter.all false
set_option maxRecDepth 100000
set_option maxHeartbeats 8000000
namespace Vx
open PySem PySem.Spec PyProof.Rows L2

/-! ### heaps -/
def SameX (m : Addr) (H H' : Hp) : Prop := ∀ b o, H b = some o → b ≠ m → H' b = some o
theorem gen_new {H H' : Hp} {p : Addr} {o : HO} (n : H p = none) (h : upd H p o = H') : Same H H' ∧ H' p = some o := by
  subst h
  exact ⟨fun b u e => by rw [upd_ne (ne_of_none e n)]; exact e, upd_same⟩
theorem gen_mut {H H' : Hp} {m : Addr} {o : HO} (h : upd H m o = H') : SameX m H H' ∧ H' m = some o := by
  subst h
  exact ⟨fun b u e n => by rw [upd_ne n]; exact e, upd_same⟩
theorem same_mut {H0 H H' : Hp} {m : Addr} (B : Same H0 H) (x : SameX m H H') (f : H0 m = none) : Same H0 H' :=
  fun b o e => x b o (B b o e) (ne_of_none e f)
theorem map_get {xs : List Int} {i : Nat} {x : V} (h : (xs.map V.int)[i]? = some x) : ∃ o, xs[i]? = some o ∧ x = .int o := by
  rw [List.getElem?_map] at h
  cases e : xs[i]? with
  | none => rw [e] at h; cases h
  | some z => rw [e] at h; exact ⟨z, rfl, (Option.some.inj h).symm⟩
theorem get_len {α : Type} {xs : List α} {i : Nat} {x : α} (h : xs[i]? = some x) : i < xs.length := (List.getElem?_eq_some_iff.mp h).1
theorem eq_int {Q : VK} {H : Hp} {a b : Int} (h : Q (.int a) H) (e : a = b) : Q (.int b) H := e ▸ h
theorem eq_bl {Q : VK} {H : Hp} {a b : Bool} (h : Q (.bl a) H) (e : a = b) : Q (.bl b) H := e ▸ h
theorem small {n : Nat} (h : n ≤ 1000000) : n < sizeLine := Nat.lt_of_le_of_lt h (by decide)
theorem smallE {n : Nat} (h : n ≤ 1000000) : n ≤ sizeLine := Nat.le_of_lt (small h)
theorem snoc_int {xs : List Int} {y : Int} {H : Hp} {p : Addr} (h : H p = some (.lst (xs.map V.int ++ [V.int y]))) : H p = some (.lst ((xs ++ [y]).map V.int)) := by
  rw [List.map_append]; exact h
theorem cat_int {xs ys : List Int} {H : Hp} {p : Addr} (h : H p = some (.lst (xs.map V.int ++ ys.map V.int))) : H p = some (.lst ((xs ++ ys).map V.int)) := by
  rw [List.map_append]; exact h
theorem cast_lst {xs ys : List Int} {H : Hp} {p : Addr} (h : H p = some (.lst (xs.map V.int))) (e : xs = ys) : H p = some (.lst (ys.map V.int)) := e ▸ h

/-! ### tests -/
theorem dT {p : Prop} [Decidable p] (h : decide p = true) : p := of_decide_eq_true h
theorem dF {p : Prop} [Decidable p] (h : ¬ decide p = true) : ¬ p := fun x => h (decide_eq_true x)
theorem iteD {p A B : Prop} [Decidable p] (h1 : p → A) (h2 : ¬ p → B) : if decide p = true then A else B := by
  by_cases h : p
  · rw [if_pos (decide_eq_true h)]; exact h1 h
  · rw [if_neg (fun x => h (of_decide_eq_true x))]; exact h2 h
theorem iteN {p A B : Prop} [Decidable p] (h1 : ¬ p → A) (h2 : p → B) : if (!decide p) = true then A else B := by
  by_cases h : p
  · rw [decide_eq_true h]; exact iteF (h2 h)
  · rw [decide_eq_false h]; exact iteT (h1 h)
theorem iteB {b : Bool} {A B : Prop} (h1 : b = true → A) (h2 : b = false → B) : if b = true then A else B := by
  cases b with
  | true => exact iteT (h1 rfl)
  | false => exact iteF (h2 rfl)
theorem iteBN {b : Bool} {A B : Prop} (h1 : b = false → A) (h2 : b = true → B) : if (!b) = true then A else B := by
  cases b with
  | true => exact iteF (h2 rfl)
  | false => exact iteT (h1 rfl)
theorem iteDT {p A B : Prop} [Decidable p] (h : p) (k : A) : if decide p = true then A else B := by
  rw [if_pos (decide_eq_true h)]; exact k
theorem iteDF {p A B : Prop} [Decidable p] (h : ¬ p) (k : B) : if decide p = true then A else B := by
  rw [if_neg (fun x => h (of_decide_eq_true x))]; exact k
theorem iteNT {p A B : Prop} [Decidable p] (h : ¬ p) (k : A) : if (!decide p) = true then A else B := iteN (fun _ => k) (fun x => (h x).elim)
theorem iteNF {p A B : Prop} [Decidable p] (h : p) (k : B) : if (!decide p) = true then A else B := iteN (fun x => (x h).elim) (fun _ => k)

/-! ### equality of lists of ints -/
theorem eqvAll_ints : ∀ xs ys : List Int, PyData.eqvAll (xs.map PyData.int) (ys.map PyData.int) = decide (xs = ys)
  | [], [] => by simp [PyData.eqvAll]
  | [], y :: ys => by simp [PyData.eqvAll]
  | x :: xs, [] => by simp [PyData.eqvAll]
  | x :: xs, y :: ys => by
    have ih := eqvAll_ints xs ys
    simp only [List.map_cons, PyData.eqvAll, PyData.eqv, ih]
    by_cases h : x = y <;> by_cases h2 : xs = ys <;> simp [h, h2]
end Vx

namespace Vx
open PySem PySem.Spec PyProof.Rows L2
section
variable {X : Cx}
def rEqLi (K : PySem.W.Frag) : R2 := fun x y H Q => ∃ (a b : Addr) (xs ys : List Int), x = .ref a ∧ y = .ref b ∧ SqL K H a (xs.map V.int) ∧ SqL K H b (ys.map V.int) ∧ Q (.bl (decide (xs = ys))) H
def rNeLi (K : PySem.W.Frag) : R2 := fun x y H Q => ∃ (a b : Addr) (xs ys : List Int), x = .ref a ∧ y = .ref b ∧ SqL K H a (xs.map V.int) ∧ SqL K H b (ys.map V.int) ∧ Q (.bl (!decide (xs = ys))) H
theorem dpAll_ints {K : PySem.W.Frag} {H : Hp} : ∀ xs : List Int, DpAll K H (xs.map V.int) (xs.map PyData.int)
  | [] => .nil
  | x :: xs => .cons (.int x) (dpAll_ints xs)
theorem dp_ints {K : PySem.W.Frag} {H : Hp} {a : Addr} {xs : List Int} (h : SqL K H a (xs.map V.int)) : Dp K H (.ref a) (.list (xs.map PyData.int)) := .lst h (dpAll_ints xs)
theorem canLay_ints : ∀ xs : List Int, PyData.canLayAll0 (xs.map PyData.int) = true
  | [] => by simp [PyData.canLayAll0]
  | x :: xs => by simp [PyData.canLayAll0, PyData.canLay0, canLay_ints xs]
theorem depth_ints : ∀ xs : List Int, PyData.depthAll (xs.map PyData.int) = 0
  | [] => by simp [PyData.depthAll]
  | x :: xs => by simp [PyData.depthAll, PyData.depth, depth_ints xs]
theorem shaped_ints (xs : List Int) : SeqAt.shaped (.list (xs.map PyData.int)) = true := by
  unfold SeqAt.shaped
  simp [PyData.canLay0, canLay_ints, PyData.depth, depth_ints]
theorem eqv_ints (xs ys : List Int) : PyData.eqv (.list (xs.map PyData.int)) (.list (ys.map PyData.int)) = decide (xs = ys) := by
  simp only [PyData.eqv]
  exact eqvAll_ints xs ys
theorem op_eqLi (hu : X.A.units + 64 < cLine) : OpR X (compareOp .Eq) (rEqLi X.K) := by
  intro pins s σ H x y v u Q I rx ry h
  obtain ⟨a, b, xs, ys, rfl, rfl, h1, h2, q⟩ := h
  exact op_eqD hu pins s σ H _ _ v u Q I rx ry ⟨_, _, dp_ints h1, dp_ints h2, shaped_ints xs, shaped_ints ys, by rw [eqv_ints]; exact q⟩
theorem op_neLi (hu : X.A.units + 64 < cLine) : OpR X (compareOp .NotEq) (rNeLi X.K) := by
  intro pins s σ H x y v u Q I rx ry h
  obtain ⟨a, b, xs, ys, rfl, rfl, h1, h2, q⟩ := h
  exact op_neD hu pins s σ H _ _ v u Q I rx ry ⟨_, _, dp_ints h1, dp_ints h2, shaped_ints xs, shaped_ints ys, by rw [eqv_ints]; exact q⟩

/-! ### items, slices, repetition, comprehensions of ints -/
def itI (xs : List Int) (i : Int) : Int := (atI xs i).getD 0
theorem atI_int {xs : List Int} {i : Int} (h : -(xs.length : Int) ≤ i ∧ i < xs.length) : atI (xs.map V.int) i = some (.int (itI xs i)) := by
  unfold itI atI
  rw [List.length_map]
  have hk : ∃ j, ixN xs.length i = some j ∧ j < xs.length := by
    unfold ixN
    by_cases h0 : 0 ≤ i
    · refine ⟨i.toNat, ?_, by omega⟩
      rw [if_pos h0, if_pos h.2]
    · refine ⟨(i + xs.length).toNat, ?_, by omega⟩
      rw [if_neg h0, if_pos h.1]
  obtain ⟨j, e, hj⟩ := hk
  rw [e]
  show (xs.map V.int)[j]? = some (V.int ((xs[j]?).getD 0))
  rw [List.getElem?_map, List.getElem?_eq_getElem hj] <;> rfl
def cutI (xs : List Int) (lo hi : Option Int) : List Int := (xs.drop (HT.sIx xs.length 0 lo)).take (HT.sIx xs.length xs.length hi - HT.sIx xs.length 0 lo)
theorem cut_int {xs : List Int} {lo hi : Option Int} {H : Hp} {p : Addr} (h : H p = some (.lst (cutV (xs.map V.int) lo hi))) : H p = some (.lst ((cutI xs lo hi).map V.int)) := by
  rw [h]
  unfold cutV cutI
  rw [List.length_map, List.map_take, List.map_drop]
def rep (xs : List Int) (k : Int) : List Int := (List.replicate k.toNat xs).flatten
theorem rep_int {xs : List Int} {k : Int} {H : Hp} {p : Addr} (h : H p = some (.lst (List.replicate k.toNat (xs.map V.int)).flatten)) : H p = some (.lst ((rep xs k).map V.int)) := by
  rw [h]
  unfold rep
  rw [List.map_flatten, List.map_replicate]
theorem divW_lit {i j : Int} (h : 0 < j) (h2 : j.natAbs.log2 < 9000) : CDivW i j := ⟨h, h2⟩
theorem divW_small {i j : Int} (h : 0 < j) (h2 : j < 2 ^ 128) : CDivW i j := wide_div h (show j.natAbs < 2 ^ 128 by omega) (by decide) (by decide)
theorem comp_list {xs : List Int} {i : Nat} {x y : Int} {f : Int → Int} {H : Hp} {D : Addr} (hi : xs[i]? = some x) (h : H D = some (.lst (((xs.take i).map f).map V.int ++ [V.int y]))) (e : f x = y) : H D = some (.lst (((xs.take (i + 1)).map f).map V.int)) := by
  rw [h, ← e, List.take_succ, hi, List.map_append, List.map_append] <;> rfl
theorem comp_done {xs : List Int} {f : Int → Int} {H : Hp} {D : Addr} (h : H D = some (.lst (((xs.take (xs.map V.int).length).map f).map V.int))) : H D = some (.lst ((xs.map f).map V.int)) := by
  rw [List.length_map, List.take_length] at h
  exact h
theorem comp_range {i : Nat} {y : Int} {f : Nat → Int} {H : Hp} {D : Addr} (h : H D = some (.lst (((List.range i).map f).map V.int ++ [V.int y]))) (e : f i = y) : H D = some (.lst (((List.range (i + 1)).map f).map V.int)) := by
  rw [h, ← e, List.range_succ, List.map_append, List.map_append] <;> rfl
theorem iteBT {b : Bool} {A B : Prop} (h : b = true) (k : A) : if b = true then A else B := by rw [if_pos h]; exact k
theorem iteBF {b : Bool} {A B : Prop} (h : b = false) (k : B) : if b = true then A else B := by rw [if_neg (by rw [h]; decide)]; exact k
theorem take_succ_get {α : Type} {xs : List α} {i : Nat} {x : α} (hi : xs[i]? = some x) : xs.take (i + 1) = xs.take i ++ [x] := by rw [List.take_succ, hi] <;> rfl
end

/-! ### defs of the module, as callers see them -/
section
variable {P : Program} {w : World} {K : PySem.W.Frag} {mg : Str → Option Value} {base : Heap}
structure DefIn (K : PySem.W.Frag) (mg : Str → Option Value) (x : Str) (st : Stmt) (ps : List Str) : Prop where
  ex : ∃ (f : Addr) (fd : FuncData), Fun K x x st f fd ∧ mg x = some (.ref f) ∧ Binds K fd ps []
structure Cal (P : Program) (w : World) (K : PySem.W.Frag) (mg : Str → Option Value) (base : Heap) (k : Nat) (x : Str) (sp : Sp) : Prop where
  ex : ∃ (f : Addr) (fd : FuncData) (ps : List Str), FnOk P w K mg base CX0 k f fd ps sp ∧ mg x = some (.ref f) ∧ PySem.W.keepIn K (.ref f) = true ∧ Binds K fd ps []
theorem DefIn.ok {x : Str} {st : Stmt} {N ps : List Str} {k : Nat} {sp : Sp} (D : DefIn K mg x st ps) (S : FnScope N ps (defScope st)) (len : ∀ vs H Q E, sp vs H Q E → vs.length = ps.length)
    (hbody : ∀ (f : Addr) (cdv : Value) (A : Around) (outer : List Env) (s : Shared) (H : Hp) (vs : List V) (Q : VK) (E : XK), Room k (A.deeper (envOfC x (defScope st) s.heap.objs.size f cdv)) → sp vs H Q E →
      ∃ t, PSs (cxOf CX0 P w K mg base N x (defScope st) f cdv A outer s H E).nox (defBody st) t ∧ t { nx := fun _ H' => Q .non H', rt := Q } (start N vs) H) : Cal P w K mg base (k + 1) x sp := by
  obtain ⟨f, fd, F, hm, b⟩ := D.ex
  exact ⟨f, fd, ps, F.ok S len (fun cdv A outer s H vs Q E hr h => hbody f cdv A outer s H vs Q E hr h), hm, F.kp, b⟩
end
section
variable {X : Cx} {k j : Nat} {x : Str} {sp : Sp} {p pos : Pos} {e : Expr} {es : List Expr} {t : TA}
theorem vx_call (c : Cal X.prog X.w X.K X.mg X.base k x sp) (hr : Room j X.A) (hk : k ≤ j) (hg : Gl X x) (ha : PA X (e :: es) t)
    (hdb : (x == ("__debug__" : Str)) = false := by decide) (he : starEach (e :: es) X.env = (false, eval e X.env) :: starEach es X.env := by rfl) (hpl : (backTo pos (starEach es X.env)).any (·.1) = false := by rfl) :
    PE X (.Call (.Name x p) (e :: es) [] pos) (tCall sp [] E0 t) := by
  obtain ⟨f, fd, ps, F, hm, kp, b⟩ := c.ex
  exact pe_call F (hr.mono hk) hg hm kp b .nil pass0 ha hdb he hpl
end
end Vx

namespace Vx
open PySem PySem.Spec PyProof.Rows L2
section
variable {σ : L2.St} {H : Hp} {ta tb : TE} {x y z : V} {t : TT}
theorem vv_and {a b : Bool} (h1 : Val ta σ H (.bl a)) (h2 : Val tb σ H (.bl b)) : Val (tAndV ta tb) σ H (.bl (a && b)) := fun Q q => h1 _ ⟨a, rfl, by
  cases a with
  | true => exact iteT (h2 Q q)
  | false => exact iteF q⟩
theorem vv_or {a b : Bool} (h1 : Val ta σ H (.bl a)) (h2 : Val tb σ H (.bl b)) : Val (tOrV ta tb) σ H (.bl (a || b)) := fun Q q => h1 _ ⟨a, rfl, by
  cases a with
  | true => exact iteT q
  | false => exact iteF (h2 Q q)⟩
theorem vv_not {a : Bool} (h1 : Val ta σ H (.bl a)) : Val (tNotV ta) σ H (.bl (!a)) := fun Q q => h1 _ ⟨a, rfl, q⟩
theorem vv_un {r : V → Hp → VK → Prop} (ha : Val ta σ H x) (hr : ∀ Q : VK, Q z H → r x H Q) : Val (tUn r ta) σ H z := fun Q q => ha _ (hr Q q)
theorem vv_cmp {p : Int → Int → Bool} (ha : Val ta σ H x) (hb : Val tb σ H y) (hr : ∀ Q : VK, Q z H → ∃ i j, x = .int i ∧ y = .int j ∧ Q (.bl (p i j)) H) : Val (tCmp p ta tb) σ H z := fun Q q => ha _ (hb _ (hr Q q))
theorem vv_call1 {r : List V → Hp → VK → Prop} (ha : Val ta σ H x) (hr : ∀ Q : VK, Q z H → r [x] H Q) : Val (tCB r (tCons ta tNil)) σ H z := fun Q q => ha _ (hr Q q)
theorem vt_cmp {b : Bool} (h : Val ta σ H (.bl b)) : Ans (tB ta) σ H b := fun Q q => h _ ⟨b, rfl, q⟩
theorem vt_val {b : Bool} (h : Val ta σ H (.bl b)) : Ans (tB ta) σ H b := fun Q q => h _ ⟨b, rfl, q⟩
theorem vt_int {i : Int} {K : PySem.W.Frag} (h : Val ta σ H (.int i)) : Ans (fun σ H Q => ta σ H fun x H' => ∃ k, TruV K x H' k ∧ Q k H') σ H (i != 0) := fun Q q => h _ ⟨_, rfl, q⟩
theorem vv_if {p : Prop} [Decidable p] {a b : Int} (ht : Ans t σ H (decide p)) (hx : Val ta σ H (.int a)) (hy : Val tb σ H (.int b)) : Val (tIf t ta tb) σ H (.int (if p then a else b)) := fun Q q => ht _ (by
  by_cases h : p
  · rw [if_pos h] at q; exact iteDT h (hx Q q)
  · rw [if_neg h] at q; exact iteDF h (hy Q q))
theorem vv_ifb {c : Bool} {a b : Int} (ht : Ans t σ H c) (hx : Val ta σ H (.int a)) (hy : Val tb σ H (.int b)) : Val (tIf t ta tb) σ H (.int (if c = true then a else b)) := fun Q q => ht _ (by
  cases c with
  | true => exact iteT (hx Q q)
  | false => exact iteF (hy Q q))
end
end Vx

namespace Vx
open PySem PySem.Spec PyProof.Rows L2
def rLenLi (K : PySem.W.Frag) : List V → Hp → VK → Prop := fun xs H Q => ∃ (p : Addr) (ns : List Int), xs = [.ref p] ∧ SqL K H p (ns.map V.int) ∧ Q (.int (ns.length : Int)) H
theorem call_lenLi {X : Cx} : CallR X (.builtin "len") (rLenLi X.K) := by
  intro pins s σ H xs us Q I r h
  obtain ⟨p, ns, rfl, hs, q⟩ := h
  exact call_len_seq pins s σ H _ us Q I r ⟨p, _, rfl, Or.inl hs, by rw [List.length_map]; exact q⟩
end Vx

namespace Vx
open PySem PySem.Spec PyProof.Rows L2
section
variable {X : Cx} {K : PySem.W.Frag}
theorem ix_listK (hK : X.K = K := by rfl) : IxR X (rIxL K) := hK ▸ ix_list
theorem sl_listK (hK : X.K = K := by rfl) : SlR X (rSlL K) := hK ▸ sl_list
theorem call_lenLiK (hK : X.K = K := by rfl) : CallR X (.builtin "len") (rLenLi K) := hK ▸ call_lenLi
theorem op_eqLiK (hu : X.A.units + 64 < cLine) (hK : X.K = K := by rfl) : OpR X (compareOp .Eq) (rEqLi K) := hK ▸ op_eqLi hu
theorem op_neLiK (hu : X.A.units + 64 < cLine) (hK : X.K = K := by rfl) : OpR X (compareOp .NotEq) (rNeLi K) := hK ▸ op_neLi hu
theorem pi_listK {tg l : Expr} {tl : TE} (hl : PE X l tl) (hK : X.K = K := by rfl) : PI X tg l (iList K tl) := hK ▸ pi_list hl
theorem cr_sumK (hc : X.calm = true) (hK : X.K = K := by rfl) : CallR X (.builtin "sum") (rSum K) := hK ▸ cr_sum hc
theorem cr_maxK (hc : X.calm = true) (hK : X.K = K := by rfl) : CallR X (.builtin "max") (rMax K) := hK ▸ cr_max hc
theorem cr_minK (hc : X.calm = true) (hK : X.K = K := by rfl) : CallR X (.builtin "min") (rMin K) := hK ▸ cr_min hc
end
end Vx

namespace Vx
open PySem PySem.Spec PyProof.Rows L2
theorem tyes_go {σ : L2.St} {H : Hp} {f g : Hp → Prop} (h : f H) : tYes σ H (fun b H3 => if b = true then f H3 else g H3) := by
  show if true = true then f H else g H
  exact iteT h
end Vx

/-! # second part: data of any depth, the stable heap G, the owned addresses O -/
namespace Vx
open PySem PySem.Spec PyProof.Rows L2
mutual
inductive Rp (H : Hp) : V → PyData → Prop
  | non : Rp H .non .none
  | bl (b : Bool) : Rp H (.bl b) (.bool b)
  | int (i : Int) : Rp H (.int i) (.int i)
  | str (x : Str) : Rp H (.str x) (.str x)
  | lst {a : Addr} {xs : List V} {ds : List PyData} : H a = some (.lst xs) → RpAll H xs ds → Rp H (.ref a) (.list ds)
  | tup {a : Addr} {xs : List V} {ds : List PyData} : H a = some (.tup xs) → RpAll H xs ds → Rp H (.ref a) (.tuple ds)
inductive RpAll (H : Hp) : List V → List PyData → Prop
  | nil : RpAll H [] []
  | cons {v : V} {vs : List V} {d : PyData} {ds : List PyData} : Rp H v d → RpAll H vs ds → RpAll H (v :: vs) (d :: ds)
end
mutual
theorem Rp.mono {H H' : Hp} (e : Same H H') : ∀ {v : V} {d : PyData}, Rp H v d → Rp H' v d
  | _, _, .non => .non
  | _, _, .bl b => .bl b
  | _, _, .int i => .int i
  | _, _, .str x => .str x
  | _, _, .lst h r => .lst (e _ _ h) (RpAll.mono e r)
  | _, _, .tup h r => .tup (e _ _ h) (RpAll.mono e r)
theorem RpAll.mono {H H' : Hp} (e : Same H H') : ∀ {vs : List V} {ds : List PyData}, RpAll H vs ds → RpAll H' vs ds
  | _, _, .nil => .nil
  | _, _, .cons a b => .cons (Rp.mono e a) (RpAll.mono e b)
end
mutual
theorem Rp.dp {K : PySem.W.Frag} {H : Hp} : ∀ {v : V} {d : PyData}, Rp H v d → Dp K H v d
  | _, _, .non => .non
  | _, _, .bl b => .bl b
  | _, _, .int i => .int i
  | _, _, .str x => .str x
  | _, _, .lst h r => .lst (SqL.of h) (RpAll.dp r)
  | _, _, .tup h r => .tup (SqT.of h) (RpAll.dp r)
theorem RpAll.dp {K : PySem.W.Frag} {H : Hp} : ∀ {vs : List V} {ds : List PyData}, RpAll H vs ds → DpAll K H vs ds
  | _, _, .nil => .nil
  | _, _, .cons a b => .cons (Rp.dp a) (RpAll.dp b)
end
theorem RpAll.append {H : Hp} : ∀ {xs ys : List V} {ds es : List PyData}, RpAll H xs ds → RpAll H ys es → RpAll H (xs ++ ys) (ds ++ es)
  | _, _, _, _, .nil, s => s
  | _, _, _, _, .cons r t, s => .cons r (RpAll.append t s)
theorem RpAll.ints {H : Hp} : ∀ xs : List Int, RpAll H (xs.map V.int) (xs.map PyData.int)
  | [] => .nil
  | x :: xs => .cons (.int x) (RpAll.ints xs)
theorem RpAll.bls {H : Hp} : ∀ xs : List Bool, RpAll H (xs.map V.bl) (xs.map PyData.bool)
  | [] => .nil
  | x :: xs => .cons (.bl x) (RpAll.bls xs)
theorem RpAll.one {H : Hp} {v : V} {d : PyData} (h : Rp H v d) : RpAll H [v] [d] := .cons h .nil
theorem RpAll.len {H : Hp} : ∀ {vs : List V} {ds : List PyData}, RpAll H vs ds → vs.length = ds.length
  | _, _, .nil => rfl
  | _, _, .cons _ t => by rw [List.length_cons, List.length_cons, RpAll.len t]
theorem RpAll.at {H : Hp} : ∀ {vs : List V} {ds : List PyData} {i : Nat} {v : V}, RpAll H vs ds → vs[i]? = some v → ∃ d, ds[i]? = some d ∧ Rp H v d
  | _, _, _, _, .nil, h => by simp at h
  | _, _, 0, _, .cons r _, h => by
    simp at h
    subst h
    exact ⟨_, rfl, r⟩
  | _, _, i + 1, _, .cons _ t, h => by
    obtain ⟨d, h1, h2⟩ := RpAll.at (i := i) t (by simpa using h)
    exact ⟨d, by simpa using h1, h2⟩
theorem RpAll.at' {H : Hp} : ∀ {vs : List V} {ds : List PyData} {i : Nat} {d : PyData}, RpAll H vs ds → ds[i]? = some d → ∃ v, vs[i]? = some v ∧ Rp H v d
  | _, _, _, _, .nil, h => by simp at h
  | _, _, 0, _, .cons r _, h => by
    simp at h
    subst h
    exact ⟨_, rfl, r⟩
  | _, _, i + 1, _, .cons _ t, h => by
    obtain ⟨v, h1, h2⟩ := RpAll.at' (i := i) t (by simpa using h)
    exact ⟨v, by simpa using h1, h2⟩
theorem RpAll.take {H : Hp} : ∀ (n : Nat) {vs : List V} {ds : List PyData}, RpAll H vs ds → RpAll H (vs.take n) (ds.take n)
  | 0, _, _, _ => by simpa using RpAll.nil
  | n + 1, _, _, .nil => by simpa using RpAll.nil
  | n + 1, _, _, .cons r t => .cons r (RpAll.take n t)
theorem RpAll.drop {H : Hp} : ∀ (n : Nat) {vs : List V} {ds : List PyData}, RpAll H vs ds → RpAll H (vs.drop n) (ds.drop n)
  | 0, _, _, r => r
  | n + 1, _, _, .nil => by simpa using RpAll.nil
  | n + 1, _, _, .cons r t => RpAll.drop n t
theorem RpAll.set {H : Hp} {v : V} {d : PyData} (h : Rp H v d) : ∀ (n : Nat) {vs : List V} {ds : List PyData}, RpAll H vs ds → RpAll H (vs.set n v) (ds.set n d)
  | _, _, _, .nil => .nil
  | 0, _, _, .cons _ t => .cons h t
  | n + 1, _, _, .cons r t => .cons r (RpAll.set h n t)
theorem RpAll.rep {H : Hp} {vs : List V} {ds : List PyData} (h : RpAll H vs ds) : ∀ n : Nat, RpAll H (List.replicate n vs).flatten (List.replicate n ds).flatten
  | 0 => by simpa using RpAll.nil
  | n + 1 => by
    rw [List.replicate_succ, List.flatten_cons, List.replicate_succ, List.flatten_cons]
    exact RpAll.append h (RpAll.rep h n)
theorem RpAll.get {α : Type} {f : α → PyData} {H : Hp} {vs : List V} {xs : List α} {i : Nat} {v : V} (r : RpAll H vs (xs.map f)) (h : vs[i]? = some v) : ∃ x, xs[i]? = some x ∧ Rp H v (f x) := by
  obtain ⟨d, h1, h2⟩ := RpAll.at r h
  rw [List.getElem?_map] at h1
  cases e : xs[i]? with
  | none => rw [e] at h1; cases h1
  | some x =>
    rw [e] at h1
    have : f x = d := Option.some.inj h1
    exact ⟨x, rfl, this ▸ h2⟩
/-- the item at an index, data -/
theorem RpAll.ix {α : Type} {f : α → PyData} {H : Hp} {vs : List V} {xs : List α} {k : Int} (r : RpAll H vs (xs.map f)) (h : -(xs.length : Int) ≤ k ∧ k < xs.length) : ∃ v x, atI vs k = some v ∧ atI xs k = some x ∧ Rp H v (f x) := by
  have hl : vs.length = xs.length := by rw [r.len, List.length_map]
  have hk : ∃ j, ixN xs.length k = some j ∧ j < xs.length := by
    unfold ixN
    by_cases h0 : 0 ≤ k
    · refine ⟨k.toNat, ?_, by omega⟩
      rw [if_pos h0, if_pos h.2]
    · refine ⟨(k + xs.length).toNat, ?_, by omega⟩
      rw [if_neg h0, if_pos h.1]
  obtain ⟨j, e, hj⟩ := hk
  have hx := List.getElem?_eq_getElem hj
  obtain ⟨v, h1, h2⟩ := RpAll.at' (i := j) (d := f xs[j]) r (by rw [List.getElem?_map, hx] <;> rfl)
  refine ⟨v, xs[j], ?_, ?_, h2⟩
  · unfold atI
    rw [hl, e]
    exact h1
  · unfold atI
    rw [e]
    exact hx

/-! ### types -/
def encL {α : Type} (f : α → PyData) (xs : List α) : PyData := .list (xs.map f)
def encT2 {α β : Type} (f : α → PyData) (g : β → PyData) (p : α × β) : PyData := .tuple [f p.1, g p.2]
def encT3 {α β γ : Type} (f : α → PyData) (g : β → PyData) (h : γ → PyData) (p : α × β × γ) : PyData := .tuple [f p.1, g p.2.1, h p.2.2]
def encT4 {α β γ δ : Type} (f : α → PyData) (g : β → PyData) (h : γ → PyData) (i : δ → PyData) (p : α × β × γ × δ) : PyData := .tuple [f p.1, g p.2.1, h p.2.2.1, i p.2.2.2]
structure EncOk {α : Type} [DecidableEq α] (n : Nat) (f : α → PyData) : Prop where
  lay : ∀ x, PyData.canLay0 (f x) = true
  dep : ∀ x, PyData.depth (f x) ≤ n
  eqv : ∀ x y, PyData.eqv (f x) (f y) = decide (x = y)
theorem encOk_int : EncOk 0 PyData.int := ⟨fun _ => by simp [PyData.canLay0], fun _ => by simp [PyData.depth], fun x y => by simp [PyData.eqv]; by_cases h : x = y <;> simp [h]⟩
theorem encOk_bool : EncOk 0 PyData.bool := ⟨fun _ => by simp [PyData.canLay0], fun _ => by simp [PyData.depth], fun x y => by cases x <;> cases y <;> simp [PyData.eqv]⟩
section
variable {α β γ δ : Type} [DecidableEq α] [DecidableEq β] [DecidableEq γ] [DecidableEq δ] {n m l o : Nat} {f : α → PyData} {g : β → PyData} {h : γ → PyData} {i : δ → PyData}
theorem lay_map (ok : EncOk n f) : ∀ xs : List α, PyData.canLayAll0 (xs.map f) = true
  | [] => by simp [PyData.canLayAll0]
  | x :: xs => by simp [PyData.canLayAll0, ok.lay x, lay_map ok xs]
theorem dep_map (ok : EncOk n f) : ∀ xs : List α, PyData.depthAll (xs.map f) ≤ n
  | [] => by simp [PyData.depthAll]
  | x :: xs => by
    have h1 := ok.dep x
    have h2 := dep_map ok xs
    simp only [List.map_cons, PyData.depthAll]
    omega
theorem eqv_map (ok : EncOk n f) : ∀ xs ys : List α, PyData.eqvAll (xs.map f) (ys.map f) = decide (xs = ys)
  | [], [] => by simp [PyData.eqvAll]
  | [], y :: ys => by simp [PyData.eqvAll]
  | x :: xs, [] => by simp [PyData.eqvAll]
  | x :: xs, y :: ys => by
    have ih := eqv_map ok xs ys
    simp only [List.map_cons, PyData.eqvAll, ok.eqv, ih]
    by_cases h : x = y <;> by_cases h2 : xs = ys <;> simp [h, h2]
theorem encOk_L (ok : EncOk n f) : EncOk (n + 1) (encL f) := ⟨fun xs => by simp [encL, PyData.canLay0, lay_map ok], fun xs => by
  have := dep_map ok xs
  simp only [encL, PyData.depth]
  omega, fun xs ys => by simp only [encL, PyData.eqv]; exact eqv_map ok xs ys⟩
theorem encOk_T2 (ok : EncOk n f) (ok2 : EncOk m g) : EncOk (max n m + 1) (encT2 f g) := ⟨fun x => by simp [encT2, PyData.canLay0, PyData.canLayAll0, ok.lay, ok2.lay], fun x => by
  have h1 := ok.dep x.1
  have h2 := ok2.dep x.2
  simp only [encT2, PyData.depth, PyData.depthAll]
  omega, fun x y => by
  obtain ⟨a, b⟩ := x
  obtain ⟨c, d⟩ := y
  simp only [encT2, PyData.eqv, PyData.eqvAll, ok.eqv, ok2.eqv, Prod.mk.injEq]
  by_cases h1 : a = c <;> by_cases h2 : b = d <;> simp [h1, h2]⟩
theorem encOk_T3 (ok : EncOk n f) (ok2 : EncOk m g) (ok3 : EncOk l h) : EncOk (max n (max m l) + 1) (encT3 f g h) := ⟨fun x => by simp [encT3, PyData.canLay0, PyData.canLayAll0, ok.lay, ok2.lay, ok3.lay], fun x => by
  have h1 := ok.dep x.1
  have h2 := ok2.dep x.2.1
  have h3 := ok3.dep x.2.2
  simp only [encT3, PyData.depth, PyData.depthAll]
  omega, fun x y => by
  obtain ⟨a, b, e⟩ := x
  obtain ⟨c, d, e'⟩ := y
  simp only [encT3, PyData.eqv, PyData.eqvAll, ok.eqv, ok2.eqv, ok3.eqv, Prod.mk.injEq]
  by_cases h1 : a = c <;> by_cases h2 : b = d <;> by_cases h3 : e = e' <;> simp [h1, h2, h3]⟩
theorem encOk_T4 (ok : EncOk n f) (ok2 : EncOk m g) (ok3 : EncOk l h) (ok4 : EncOk o i) : EncOk (max n (max m (max l o)) + 1) (encT4 f g h i) := ⟨fun x => by simp [encT4, PyData.canLay0, PyData.canLayAll0, ok.lay, ok2.lay, ok3.lay, ok4.lay], fun x => by
  have h1 := ok.dep x.1
  have h2 := ok2.dep x.2.1
  have h3 := ok3.dep x.2.2.1
  have h4 := ok4.dep x.2.2.2
  simp only [encT4, PyData.depth, PyData.depthAll]
  omega, fun x y => by
  obtain ⟨a, b, e, u⟩ := x
  obtain ⟨c, d, e', u'⟩ := y
  simp only [encT4, PyData.eqv, PyData.eqvAll, ok.eqv, ok2.eqv, ok3.eqv, ok4.eqv, Prod.mk.injEq]
  by_cases h1 : a = c <;> by_cases h2 : b = d <;> by_cases h3 : e = e' <;> by_cases h4 : u = u' <;> simp [h1, h2, h3, h4]⟩
end
section
variable {X : Cx} {α : Type} [DecidableEq α] {n : Nat} {f : α → PyData}
def rEqT (f : α → PyData) : R2 := fun x y H Q => ∃ (a b : α), Rp H x (f a) ∧ Rp H y (f b) ∧ Q (.bl (decide (a = b))) H
def rNeT (f : α → PyData) : R2 := fun x y H Q => ∃ (a b : α), Rp H x (f a) ∧ Rp H y (f b) ∧ Q (.bl (!decide (a = b))) H
theorem shaped_of (ok : EncOk n f) (hn : n ≤ 64) (a : α) : SeqAt.shaped (f a) = true := by
  unfold SeqAt.shaped
  have h := ok.dep a
  rw [ok.lay]
  simp
  omega
theorem op_eqT (ok : EncOk n f) (hu : X.A.units + 64 < cLine) (hn : n ≤ 64 := by decide) : OpR X (compareOp .Eq) (rEqT f) := by
  intro pins s σ H x y v u Q I rx ry h
  obtain ⟨a, b, h1, h2, q⟩ := h
  exact op_eqD hu pins s σ H _ _ v u Q I rx ry ⟨_, _, h1.dp, h2.dp, shaped_of ok hn a, shaped_of ok hn b, by rw [ok.eqv]; exact q⟩
theorem op_neT (ok : EncOk n f) (hu : X.A.units + 64 < cLine) (hn : n ≤ 64 := by decide) : OpR X (compareOp .NotEq) (rNeT f) := by
  intro pins s σ H x y v u Q I rx ry h
  obtain ⟨a, b, h1, h2, q⟩ := h
  exact op_neD hu pins s σ H _ _ v u Q I rx ry ⟨_, _, h1.dp, h2.dp, shaped_of ok hn a, shaped_of ok hn b, by rw [ok.eqv]; exact q⟩
end
section
variable {H : Hp} {v : V} {α β γ δ : Type} {f : α → PyData} {g : β → PyData} {h : γ → PyData} {i : δ → PyData}
theorem rp_int {x : Int} (r : Rp H v (.int x)) : v = .int x := by cases r; rfl
theorem rp_bool {x : Bool} (r : Rp H v (.bool x)) : v = .bl x := by cases r; rfl
theorem rp_str {x : Str} (r : Rp H v (.str x)) : v = .str x := by cases r; rfl
theorem rp_list {xs : List α} (r : Rp H v (encL f xs)) : ∃ a vs, v = .ref a ∧ H a = some (.lst vs) ∧ RpAll H vs (xs.map f) := by
  unfold encL at r
  cases r with
  | lst h1 h2 => exact ⟨_, _, rfl, h1, h2⟩
theorem rpAll_ints : ∀ {vs : List V} {xs : List Int}, RpAll H vs (xs.map PyData.int) → vs = xs.map V.int
  | _, [], .nil => rfl
  | _, x :: xs, .cons r t => by rw [rp_int r, rpAll_ints t] <;> rfl
theorem rp_ints {xs : List Int} (r : Rp H v (encL PyData.int xs)) : ∃ a, v = .ref a ∧ H a = some (.lst (xs.map V.int)) := by
  obtain ⟨a, vs, e, h1, h2⟩ := rp_list r
  rw [rpAll_ints h2] at h1
  exact ⟨a, e, h1⟩
theorem rp_tup2 {x : α × β} (r : Rp H v (encT2 f g x)) : ∃ a v1 v2, v = .ref a ∧ H a = some (.tup [v1, v2]) ∧ Rp H v1 (f x.1) ∧ Rp H v2 (g x.2) := by
  unfold encT2 at r
  cases r with
  | tup h1 h2 =>
    cases h2 with
    | cons a b =>
      cases b with
      | cons b c =>
        cases c
        exact ⟨_, _, _, rfl, h1, a, b⟩
theorem rp_tup3 {x : α × β × γ} (r : Rp H v (encT3 f g h x)) : ∃ a v1 v2 v3, v = .ref a ∧ H a = some (.tup [v1, v2, v3]) ∧ Rp H v1 (f x.1) ∧ Rp H v2 (g x.2.1) ∧ Rp H v3 (h x.2.2) := by
  unfold encT3 at r
  cases r with
  | tup h1 h2 =>
    cases h2 with
    | cons a b =>
      cases b with
      | cons b c =>
        cases c with
        | cons c d =>
          cases d
          exact ⟨_, _, _, _, rfl, h1, a, b, c⟩
theorem rp_mk_list {a : Addr} {vs : List V} {xs : List α} (h1 : H a = some (.lst vs)) (h2 : RpAll H vs (xs.map f)) : Rp H (.ref a) (encL f xs) := .lst h1 h2
theorem rp_mk_ints {a : Addr} {xs : List Int} (h1 : H a = some (.lst (xs.map V.int))) : Rp H (.ref a) (encL PyData.int xs) := .lst h1 (RpAll.ints xs)
theorem rp_mk2 {a : Addr} {v1 v2 : V} {x : α} {y : β} (h1 : H a = some (.tup [v1, v2])) (r1 : Rp H v1 (f x)) (r2 : Rp H v2 (g y)) : Rp H (.ref a) (encT2 f g (x, y)) := .tup h1 (.cons r1 (.cons r2 .nil))
theorem rp_mk3 {a : Addr} {v1 v2 v3 : V} {x : α} {y : β} {z : γ} (h1 : H a = some (.tup [v1, v2, v3])) (r1 : Rp H v1 (f x)) (r2 : Rp H v2 (g y)) (r3 : Rp H v3 (h z)) : Rp H (.ref a) (encT3 f g h (x, y, z)) := .tup h1 (.cons r1 (.cons r2 (.cons r3 .nil)))
end

/-! ### the two heaps -/
def SameXs (L : List Addr) (H H' : Hp) : Prop := ∀ b o, H b = some o → b ∉ L → H' b = some o
theorem SameXs.of {H H' : Hp} {m : Addr} (x : SameX m H H') : SameXs [m] H H' := fun b o e n => x b o e (fun z => n (by rw [z]; exact List.mem_cons_self))
theorem ni1 {b m : Addr} (h : b ≠ m) : b ∉ [m] := by simpa using h
theorem ni2 {b m n : Addr} (h : b ≠ m) (h2 : b ≠ n) : b ∉ [m, n] := by simp [h, h2]
theorem ni3 {b m n o : Addr} (h : b ≠ m) (h2 : b ≠ n) (h3 : b ≠ o) : b ∉ [m, n, o] := by simp [h, h2, h3]
theorem ni4 {b m n o p : Addr} (h : b ≠ m) (h2 : b ≠ n) (h3 : b ≠ o) (h4 : b ≠ p) : b ∉ [m, n, o, p] := by simp [h, h2, h3, h4]
def hideL (L : List Addr) (H : Hp) : Hp := fun b => if b ∈ L then none else H b
theorem hideL_same (L : List Addr) (H : Hp) : Same (hideL L H) H := fun b o e => by
  unfold hideL at e
  split at e
  · cases e
  · exact e
theorem hideL_in {L : List Addr} {H : Hp} {b : Addr} (h : b ∈ L) : hideL L H b = none := if_pos h
theorem hideL_out {L : List Addr} {H : Hp} {b : Addr} (h : b ∉ L) : hideL L H b = H b := if_neg h
/-- M: owned from outside; H0, G0: at the entry; G: what stays as it is; O: what may change -/
structure Sep (M : List Addr) (H0 G0 G H : Hp) (O : List Addr) : Prop where
  base : SameXs M H0 H
  pm : ∀ a ∈ M, H a ≠ none
  sG : Same G H
  g0 : Same G0 G
  gn : ∀ b, H0 b ≠ none → G0 b = none → G b = none
  ow : ∀ a ∈ O, G a = none ∧ H a ≠ none ∧ (a ∈ M ∨ H0 a = none)
theorem all_nil {P : Addr → Prop} : ∀ x ∈ ([] : List Addr), P x := fun x h => by cases h
theorem all_cons {P : Addr → Prop} {a : Addr} {l : List Addr} (h : P a) (t : ∀ x ∈ l, P x) : ∀ x ∈ a :: l, P x := fun x hx => by
  cases hx with
  | head => exact h
  | tail _ hx => exact t x hx
theorem some_ne {H : Hp} {a : Addr} {o : HO} (h : H a = some o) : H a ≠ none := by
  rw [h]
  exact fun z => nomatch z
theorem same_ne {H H' : Hp} {a : Addr} (e : Same H H') (h : H a ≠ none) : H' a ≠ none := by
  cases q : H a with
  | none => exact absurd q h
  | some o => exact some_ne (e a o q)
section
variable {M : List Addr} {H0 G0 G H H' : Hp} {O : List Addr} {p m : Addr} {o : HO}
theorem Sep.start (M : List Addr) (H : Hp) (hM : ∀ a ∈ M, H a ≠ none) : Sep M H (hideL M H) (hideL M H) H M :=
  ⟨fun _ _ e _ => e, hM, hideL_same M H, Same.refl _, fun _ _ e => e, fun a ha => ⟨hideL_in ha, hM a ha, .inl ha⟩⟩
theorem Sep.startG {G H : Hp} (e : Same G H) : Sep [] H G G H [] := ⟨fun _ _ e _ => e, all_nil, e, Same.refl _, fun _ _ e => e, fun a ha => by cases ha⟩
theorem Sep.start0 (H : Hp) : Sep [] H H H H [] := Sep.startG (Same.refl H)
theorem Sep.b0 (S : Sep [] H0 G0 G H O) : Same H0 H := fun b o e => S.base b o e List.not_mem_nil
theorem Sep.free (S : Sep M H0 G0 G H O) {q : Addr} (n : H q = none) : H0 q = none := by
  cases e : H0 q with
  | none => rfl
  | some o =>
    by_cases h : q ∈ M
    · exact absurd n (S.pm q h)
    · rw [S.base q o e h] at n
      cases n
theorem Sep.same (S : Sep M H0 G0 G H O) (e : Same H H') : Sep M H0 G0 G H' O :=
  ⟨fun b o h n => e b o (S.base b o h n), fun a ha => same_ne e (S.pm a ha), S.sG.trans e, S.g0, S.gn, fun a ha => ⟨(S.ow a ha).1, same_ne e (S.ow a ha).2.1, (S.ow a ha).2.2⟩⟩
theorem Sep.gfree (S : Sep M H0 G0 G H O) {q : Addr} (n : H q = none) : G q = none := by
  cases e : G q with
  | none => rfl
  | some o => rw [S.sG q o e] at n; cases n
theorem Sep.new (S : Sep M H0 G0 G H O) (n : H p = none) (e : Same H H') (h : H' p = some o) (hm : H0 p = none) : Sep M H0 G0 G H' (p :: O) := by
  have S1 := S.same e
  refine ⟨S1.base, S1.pm, S1.sG, S1.g0, S1.gn, fun a ha => ?_⟩
  cases ha with
  | head => exact ⟨S.gfree n, some_ne h, .inr hm⟩
  | tail _ ha => exact S1.ow a ha
theorem Sep.grow (S : Sep M H0 G0 G H O) (n : H p = none) (e : Same H H') (h : H' p = some o) (hm : H0 p = none) : ∃ G', Same G G' ∧ G' p = some o ∧ Sep M H0 G0 G' H' O := by
  have S1 := S.same e
  have ng := S.gfree n
  refine ⟨upd G p o, fun b u q => by rw [upd_ne (ne_of_none q ng)]; exact q, upd_same, S1.base, S1.pm, fun b u q => ?_, fun b u q => ?_, fun b hb gb => ?_, fun a ha => ?_⟩
  · by_cases z : b = p
    · subst z
      rw [upd_same] at q
      exact q ▸ h
    · rw [upd_ne z] at q
      exact S1.sG b u q
  · have := S.g0 b u q
    rw [upd_ne (ne_of_none this ng)]
    exact this
  · by_cases z : b = p
    · subst z
      exact absurd hm hb
    · rw [upd_ne z]
      exact S.gn b hb gb
  · have hne : a ≠ p := fun z => (S.ow a ha).2.1 (by rw [z]; exact n)
    rw [upd_ne hne]
    exact S1.ow a ha
theorem Sep.mut (S : Sep M H0 G0 G H O) {L : List Addr} (x : SameXs L H H') (hL : ∀ a ∈ L, a ∈ O) (hs : ∀ a ∈ L, H' a ≠ none) : Sep M H0 G0 G H' O := by
  have keep : ∀ a, H a ≠ none → H' a ≠ none := fun a h => by
    by_cases hb : a ∈ L
    · exact hs a hb
    · cases q : H a with
      | none => exact absurd q h
      | some o => exact some_ne (x a o q hb)
  refine ⟨fun b o e n => ?_, fun a ha => keep a (S.pm a ha), fun b o e => ?_, S.g0, S.gn, fun a ha => ⟨(S.ow a ha).1, keep a (S.ow a ha).2.1, (S.ow a ha).2.2⟩⟩
  · refine x b o (S.base b o e n) fun hb => ?_
    rcases (S.ow b (hL b hb)).2.2 with z | z
    · exact n z
    · rw [e] at z; cases z
  · refine x b o (S.sG b o e) fun hb => ?_
    have := (S.ow b (hL b hb)).1
    rw [e] at this
    cases this
theorem Sep.mut1 (S : Sep M H0 G0 G H O) (x : SameX m H H') (hm : m ∈ O) (h : H' m = some o) : Sep M H0 G0 G H' O :=
  S.mut (SameXs.of x) (all_cons hm all_nil) (all_cons (some_ne h) all_nil)
theorem Sep.sub (S : Sep M H0 G0 G H O) {O' : List Addr} (h : ∀ a ∈ O', a ∈ O) : Sep M H0 G0 G H O' := ⟨S.base, S.pm, S.sG, S.g0, S.gn, fun a ha => S.ow a (h a ha)⟩
/-- what was owned and is to stay as it is from now on -/
theorem Sep.freeze (S : Sep M H0 G0 G H O) {O' : List Addr} (hp : p ∈ O) (h : H p = some o) (hm : H0 p = none) (hO : ∀ a ∈ O', a ∈ O ∧ a ≠ p) : ∃ G', Same G G' ∧ G' p = some o ∧ Sep M H0 G0 G' H O' := by
  have ng := (S.ow p hp).1
  refine ⟨upd G p o, fun b u q => by rw [upd_ne (ne_of_none q ng)]; exact q, upd_same, S.base, S.pm, fun b u q => ?_, fun b u q => ?_, fun b hb gb => ?_, fun a ha => ?_⟩
  · by_cases z : b = p
    · subst z
      rw [upd_same] at q
      exact q ▸ h
    · rw [upd_ne z] at q
      exact S.sG b u q
  · have := S.g0 b u q
    rw [upd_ne (ne_of_none this ng)]
    exact this
  · by_cases z : b = p
    · subst z
      exact absurd hm hb
    · rw [upd_ne z]
      exact S.gn b hb gb
  · rw [upd_ne (hO a ha).2]
    exact S.ow a (hO a ha).1
/-- a callee that hands on data in a stable heap of its own -/
theorem Sep.step (S : Sep M H0 G0 G H O) {G' : Hp} (e : Same H H') (eG : Same G G') (sG : Same G' H') (hn : ∀ b, H b ≠ none → G b = none → G' b = none) : Sep M H0 G0 G' H' O := by
  have S1 := S.same e
  refine ⟨S1.base, S1.pm, sG, S.g0.trans eG, fun b hb gb => ?_, fun a ha => ⟨hn a (S.ow a ha).2.1 (S.ow a ha).1, (S1.ow a ha).2⟩⟩
  refine hn b (fun z => ?_) (S.gn b hb gb)
  exact hb (S.free z)
theorem Sep.hid (S : Sep M H0 G0 G H O) {L : List Addr} (h : ∀ a ∈ L, a ∈ O) : Same G (hideL L H) := fun b o e => by
  rw [hideL_out fun z => by
    have := (S.ow b (h b z)).1
    rw [e] at this
    cases this]
  exact S.sG b o e
end
end Vx

namespace Vx
open PySem PySem.Spec PyProof.Rows L2
/-! ### lists of plain things (f : V.int, V.bl, V.str) -/
section
variable {α : Type} {f : α → V} {H : Hp} {p : Addr}
theorem cat_map {xs ys : List α} (h : H p = some (.lst (xs.map f ++ ys.map f))) : H p = some (.lst ((xs ++ ys).map f)) := by
  rw [List.map_append]; exact h
theorem snoc_map {xs : List α} {y : α} (h : H p = some (.lst (xs.map f ++ [f y]))) : H p = some (.lst ((xs ++ [y]).map f)) := by
  rw [List.map_append]; exact h
def repL (xs : List α) (k : Int) : List α := (List.replicate k.toNat xs).flatten
theorem rep_map {xs : List α} {k : Int} (h : H p = some (.lst (List.replicate k.toNat (xs.map f)).flatten)) : H p = some (.lst ((repL xs k).map f)) := by
  rw [h]
  unfold repL
  rw [List.map_flatten, List.map_replicate]
def cutL (xs : List α) (lo hi : Option Int) : List α := (xs.drop (HT.sIx xs.length 0 lo)).take (HT.sIx xs.length xs.length hi - HT.sIx xs.length 0 lo)
theorem cut_map {xs : List α} {lo hi : Option Int} (h : H p = some (.lst (cutV (xs.map f) lo hi))) : H p = some (.lst ((cutL xs lo hi).map f)) := by
  rw [h]
  unfold cutV cutL
  rw [List.length_map, List.map_take, List.map_drop]
theorem cast_map {xs ys : List α} (h : H p = some (.lst (xs.map f))) (e : xs = ys) : H p = some (.lst (ys.map f)) := e ▸ h
theorem drop_map {xs : List α} (h : H p = some (.lst (xs.map f).dropLast)) : H p = some (.lst (xs.dropLast.map f)) := by
  rw [h, List.map_dropLast]
theorem ixN_some {n : Nat} {k : Int} (h : -(n : Int) ≤ k ∧ k < n) : ∃ j, ixN n k = some j ∧ j < n := by
  unfold ixN
  by_cases h0 : 0 ≤ k
  · exact ⟨k.toNat, by rw [if_pos h0, if_pos h.2], by omega⟩
  · exact ⟨(k + n).toNat, by rw [if_neg h0, if_pos h.1], by omega⟩
def itD [Inhabited α] (xs : List α) (k : Int) : α := (atI xs k).getD default
theorem atI_map [Inhabited α] {xs : List α} {k : Int} (h : -(xs.length : Int) ≤ k ∧ k < xs.length) : atI (xs.map f) k = some (f (itD xs k)) := by
  obtain ⟨j, e, hj⟩ := ixN_some h
  unfold itD atI
  rw [List.length_map, e]
  show (xs.map f)[j]? = some (f ((xs[j]?).getD default))
  rw [List.getElem?_map, List.getElem?_eq_getElem hj] <;> rfl
def setL (xs : List α) (k : Int) (y : α) : List α := xs.set ((ixN xs.length k).getD 0) y
theorem ixN_map {xs : List α} {k : Int} (h : -(xs.length : Int) ≤ k ∧ k < xs.length) : ixN (xs.map f).length k = some ((ixN xs.length k).getD 0) := by
  obtain ⟨j, e, hj⟩ := ixN_some h
  rw [List.length_map, e] <;> rfl
theorem set_map {xs : List α} {k : Int} {y : α} (h : H p = some (.lst ((xs.map f).set ((ixN xs.length k).getD 0) (f y)))) : H p = some (.lst ((setL xs k y).map f)) := by
  rw [h]
  unfold setL
  rw [List.map_set]
def lastD [Inhabited α] (xs : List α) : α := xs.getLastD default
theorem pop_map [Inhabited α] {xs : List α} (h : xs ≠ []) : (xs.map f)[(xs.map f).length - 1]? = some (f (lastD xs)) := by
  rw [← List.getLast?_eq_getElem?, List.getLast?_map]
  unfold lastD
  cases e : xs.getLast? with
  | none => exact absurd (List.getLast?_eq_none_iff.mp e) h
  | some y =>
    rw [List.getLastD_eq_getLast?, e] <;> rfl
end
/-! ### lists of data -/
section
variable {α β : Type} {f : α → PyData} {g : β → PyData} {G : Hp} {vs ws : List V} {xs ys : List α}
theorem app_map (a : RpAll G vs (xs.map f)) (b : RpAll G ws (ys.map f)) : RpAll G (vs ++ ws) ((xs ++ ys).map f) := by
  rw [List.map_append]; exact a.append b
theorem one_map {v : V} {y : α} (a : RpAll G vs (xs.map f)) (b : Rp G v (f y)) : RpAll G (vs ++ [v]) ((xs ++ [y]).map f) := by
  rw [List.map_append]; exact a.append (.one b)
theorem rep_all (k : Int) (a : RpAll G vs (xs.map f)) : RpAll G (List.replicate k.toNat vs).flatten ((repL xs k).map f) := by
  unfold repL
  rw [List.map_flatten, List.map_replicate]
  exact a.rep _
theorem cut_all (lo hi : Option Int) (a : RpAll G vs (xs.map f)) : RpAll G (cutV vs lo hi) ((cutL xs lo hi).map f) := by
  unfold cutV cutL
  rw [a.len, List.length_map, List.map_take, List.map_drop]
  exact (a.drop _).take _
theorem rp_cast {v : V} {d e : PyData} (r : Rp G v d) (h : d = e) : Rp G v e := h ▸ r
theorem comp_listD {i : Nat} {x : α} {y : β} {v : V} {h : α → β} (hi : xs[i]? = some x) (a : RpAll G vs (((xs.take i).map h).map g)) (r : Rp G v (g y)) (e : h x = y) : RpAll G (vs ++ [v]) (((xs.take (i + 1)).map h).map g) := by
  rw [take_succ_get hi, List.map_append, List.map_append]
  exact a.append (.one (e ▸ r))
theorem comp_rangeD {i : Nat} {y : β} {v : V} {h : Nat → β} (a : RpAll G vs (((List.range i).map h).map g)) (r : Rp G v (g y)) (e : h i = y) : RpAll G (vs ++ [v]) (((List.range (i + 1)).map h).map g) := by
  rw [List.range_succ, List.map_append, List.map_append]
  exact a.append (.one (e ▸ r))
theorem comp_doneD {n : Nat} {h : List α → List β} (hl : n = xs.length) (a : RpAll G vs ((h (xs.take n)).map g)) : RpAll G vs ((h xs).map g) := by
  rw [hl, List.take_length] at a
  exact a
theorem comp_listFD {i : Nat} {x : α} {y : β} {v : V} {h : α → β} {q : α → Bool} (hi : xs[i]? = some x) (hq : q x = true) (a : RpAll G vs ((((xs.take i).filter q).map h).map g)) (r : Rp G v (g y)) (e : h x = y) : RpAll G (vs ++ [v]) ((((xs.take (i + 1)).filter q).map h).map g) := by
  rw [take_succ_get hi, List.filter_append, List.filter_cons, if_pos hq, List.map_append, List.map_append]
  exact a.append (.one (e ▸ r))
theorem skip_listD {i : Nat} {x : α} {h : α → β} {q : α → Bool} (hi : xs[i]? = some x) (hq : q x = false) (a : RpAll G vs ((((xs.take i).filter q).map h).map g)) : RpAll G vs ((((xs.take (i + 1)).filter q).map h).map g) := by
  rw [take_succ_get hi, List.filter_append, List.filter_cons, if_neg (by rw [hq]; decide), List.filter_nil, List.append_nil]
  exact a
end
section
variable {α β : Type} {f : β → V} {H : Hp} {D : Addr} {xs : List α}
theorem compM_list {i : Nat} {x : α} {y : β} {h : α → β} (hi : xs[i]? = some x) (a : H D = some (.lst (((xs.take i).map h).map f ++ [f y]))) (e : h x = y) : H D = some (.lst (((xs.take (i + 1)).map h).map f)) := by
  rw [a, ← e, take_succ_get hi, List.map_append, List.map_append] <;> rfl
theorem compM_range {i : Nat} {y : β} {h : Nat → β} (a : H D = some (.lst (((List.range i).map h).map f ++ [f y]))) (e : h i = y) : H D = some (.lst (((List.range (i + 1)).map h).map f)) := by
  rw [a, ← e, List.range_succ, List.map_append, List.map_append] <;> rfl
theorem compM_done {n : Nat} {h : List α → List β} (hl : n = xs.length) (a : H D = some (.lst ((h (xs.take n)).map f))) : H D = some (.lst ((h xs).map f)) := by
  rw [hl, List.take_length] at a
  exact a
theorem compM_listF {i : Nat} {x : α} {y : β} {h : α → β} {q : α → Bool} (hi : xs[i]? = some x) (hq : q x = true) (a : H D = some (.lst ((((xs.take i).filter q).map h).map f ++ [f y]))) (e : h x = y) : H D = some (.lst ((((xs.take (i + 1)).filter q).map h).map f)) := by
  rw [a, ← e, take_succ_get hi, List.filter_append, List.filter_cons, if_pos hq, List.map_append, List.map_append] <;> rfl
theorem skipM_list {i : Nat} {x : α} {h : α → β} {q : α → Bool} (hi : xs[i]? = some x) (hq : q x = false) (a : H D = some (.lst ((((xs.take i).filter q).map h).map f))) : H D = some (.lst ((((xs.take (i + 1)).filter q).map h).map f)) := by
  rw [a, take_succ_get hi, List.filter_append, List.filter_cons, if_neg (by rw [hq]; decide), List.filter_nil, List.append_nil]
theorem compM_rangeF {i : Nat} {y : β} {h : Nat → β} {q : Nat → Bool} (hq : q i = true) (a : H D = some (.lst ((((List.range i).filter q).map h).map f ++ [f y]))) (e : h i = y) : H D = some (.lst ((((List.range (i + 1)).filter q).map h).map f)) := by
  rw [a, ← e, List.range_succ, List.filter_append, List.filter_cons, if_pos hq, List.map_append, List.map_append] <;> rfl
theorem skipM_range {i : Nat} {h : Nat → β} {q : Nat → Bool} (hq : q i = false) (a : H D = some (.lst ((((List.range i).filter q).map h).map f))) : H D = some (.lst ((((List.range (i + 1)).filter q).map h).map f)) := by
  rw [a, List.range_succ, List.filter_append, List.filter_cons, if_neg (by rw [hq]; decide), List.filter_nil, List.append_nil]
end
/-! ### more rules -/
section
variable {X : Cx} {K : PySem.W.Frag}
theorem ix_tupK (hK : X.K = K := by rfl) : IxR X (rIxT K) := hK ▸ ix_tup
def rLenLK (K : PySem.W.Frag) : List V → Hp → VK → Prop := fun xs H Q => ∃ (p : Addr) (vs : List V) (n : Nat), xs = [.ref p] ∧ SqL K H p vs ∧ vs.length = n ∧ Q (.int (n : Int)) H
theorem call_lenLK (hK : X.K = K := by rfl) : CallR X (.builtin "len") (rLenLK K) := by
  subst hK
  intro pins s σ H xs us Q I r h
  obtain ⟨p, vs, n, rfl, hs, hn, q⟩ := h
  exact call_len_seq pins s σ H _ us Q I r ⟨p, _, rfl, Or.inl hs, by rw [hn]; exact q⟩
def rListLK (K : PySem.W.Frag) : List V → Hp → VK → Prop := fun xs H Q => ∃ (p : Addr) (vs : List V), xs = [.ref p] ∧ SqL K H p vs ∧ ∀ l, H l = none → Q (.ref l) (upd H l (.lst vs))
theorem call_listLK (hK : X.K = K := by rfl) : CallR X (.type "list") (rListLK K) := by
  subst hK
  intro pins s σ H xs us Q I r h
  obtain ⟨p, vs, rfl, hs, q⟩ := h
  exact call_list_of pins s σ H _ us Q I r ⟨p, _, rfl, Or.inl hs, q⟩
theorem cr_anyK (hc : X.calm = true) (hK : X.K = K := by rfl) : CallR X (.builtin "any") (rAny K) := hK ▸ cr_any hc
theorem cr_allK (hc : X.calm = true) (hK : X.K = K := by rfl) : CallR X (.builtin "all") (rAll K) := hK ▸ cr_all hc
theorem pi_tupK {tg l : Expr} {tl : TE} (hl : PE X l tl) (hK : X.K = K := by rfl) : PI X tg l (iTup K tl) := hK ▸ pi_tup hl
theorem pip {op : Operator} {r : R2} (h : OpR X (inplaceOp op) r) : PIp X op r := fun pins s σ H x y v u Q I rx ry q => h pins s σ H x y v u Q I rx ry q
/-- an item at a place from 0 on, by itself (ahead of o[i] op= e) -/
def rIxP (K : PySem.W.Frag) : R2 := fun x y H Q => ∃ (p : Addr) (xs : List V) (k : Int) (v : V), x = .ref p ∧ y = .int k ∧ SqL K H p xs ∧ 0 ≤ k ∧ k < 2 ^ 62 ∧ atI xs k = some v ∧ Q v H
theorem pget_list (hK : X.K = K := by rfl) : PGet X (rIxP K) := by
  subst hK
  intro pins s σ H o i ov iv Q I ro ri h
  obtain ⟨p, xs, k, v, rfl, rfl, hq, h0, h62, ha, q⟩ := h
  cases ro
  obtain ⟨t, rfl⟩ := ri
  obtain ⟨its, r, pl, hz⟩ := I.list hq
  obtain ⟨j, h1, h2, h3, h4, h5⟩ := atI_get ha
  obtain ⟨w, ew, rw'⟩ := r.get h2
  have hj : k.toNat = j := by
    rw [seqIndex_of h0 h5] at h1
    exact Option.some.inj h1
  exact getItem_listL pl.isList h0 (by omega) (by rw [hj]; simpa using ew) ⟨v, H, I, rw', q⟩
theorem tru_map {α : Type} [DecidableEq α] {f : α → V} {xs : List α} : (!decide (xs = [])) = !(xs.map f).isEmpty := by
  cases xs <;> simp
end
end Vx

namespace Vx
open PySem PySem.Spec PyProof.Rows L2
/-! ### objects -/
section
variable {M : List Addr} {H0 G0 G H H' : Hp} {O : List Addr} {p m : Addr} {o : HO}
theorem gen_obj {x dx : Addr} {o1 o2 : HO} (nx : H x = none) (nd : H dx = none) (ne : dx ≠ x) (h : upd (upd H dx o1) x o2 = H') : Same H H' ∧ H' x = some o2 := by
  subst h
  exact ⟨fun b u e => by rw [upd_ne (ne_of_none e nx), upd_ne (ne_of_none e nd)]; exact e, upd_same⟩
theorem sameX_of {m : Addr} (x : SameXs [m] H H') : SameX m H H' := fun b o e n => x b o e (by simpa using n)
theorem g_ne {a b : Addr} (h : G a = some o) (S : Sep M H0 G0 G H O) (hb : b ∈ O) : a ≠ b := fun z => by
  have := (S.ow b hb).1
  rw [← z, h] at this
  cases this
/-- an object whose making has laid some lists -/
theorem Sep.mutnew (S : Sep M H0 G0 G H O) {L : List Addr} (x : SameXs L H H') (hL : ∀ a ∈ L, a ∈ O) (hs : ∀ a ∈ L, H' a ≠ none) (hn : H p = none) (hp : H' p ≠ none) (h0 : H0 p = none) : Sep M H0 G0 G H' (p :: O) := by
  have S1 := S.mut x hL hs
  refine ⟨S1.base, S1.pm, S1.sG, S1.g0, S1.gn, all_cons ⟨S.gfree hn, hp, .inr h0⟩ S1.ow⟩
theorem Sep.init (S : Sep M H0 G0 G H O) (x : SameX m H H') (hm : m ∈ O) (h : H' m = some o) (L : List Addr) (hL : ∀ a ∈ L, H a = none ∧ H' a ≠ none ∧ H0 a = none) : Sep M H0 G0 G H' (L ++ O) := by
  have S1 := S.mut1 x hm h
  refine ⟨S1.base, S1.pm, S1.sG, S1.g0, S1.gn, fun a ha => ?_⟩
  rcases List.mem_append.mp ha with z | z
  · obtain ⟨h1, h2, h3⟩ := hL a z
    exact ⟨S.gfree h1, h2, .inr h3⟩
  · exact S1.ow a z
end
section
variable {P : Program} {w : World} {K : PySem.W.Frag} {mg : Str → Option Value} {base : Heap}
structure MethIn (K : PySem.W.Frag) (C : Addr) (q m : Str) (st : Stmt) (ps : List Str) : Prop where
  ex : ∃ (f : Addr) (fd : FuncData), Fun K m q st f fd ∧ Meth K C m f ∧ Binds K fd ps []
structure PropIn (K : PySem.W.Frag) (C : Addr) (q m : Str) (st : Stmt) (ps : List Str) : Prop where
  ex : ∃ (r f : Addr) (fd : FuncData), Fun K m q st f fd ∧ PropOf K C m r f ∧ Binds K fd ps []
structure InitIn (K : PySem.W.Frag) (mg : Str → Option Value) (C : Addr) (cn q : Str) (st : Stmt) (ps : List Str) : Prop where
  ex : ∃ (f : Addr) (fd : FuncData), Fun K "__init__" q st f fd ∧ Mk K C f ∧ mg cn = some (.ref C) ∧ Binds K fd ps []
structure MetC (P : Program) (w : World) (K : PySem.W.Frag) (mg : Str → Option Value) (base : Heap) (k : Nat) (C : Addr) (m : Str) (sp : Sp) : Prop where
  ex : ∃ (f : Addr) (fd : FuncData) (ps : List Str), Cls K C ∧ Meth K C m f ∧ FnOk P w K mg base CX0 k f fd ps sp ∧ Binds K fd ps []
structure PropC (P : Program) (w : World) (K : PySem.W.Frag) (mg : Str → Option Value) (base : Heap) (k : Nat) (C : Addr) (m : Str) (sp : Sp) : Prop where
  ex : ∃ (q f : Addr) (fd : FuncData) (ps : List Str), Cls K C ∧ PropOf K C m q f ∧ FnOk P w K mg base CX0 k f fd ps sp ∧ Binds K fd ps []
structure MakC (P : Program) (w : World) (K : PySem.W.Frag) (mg : Str → Option Value) (base : Heap) (k : Nat) (cn : Str) (C : Addr) (sp : Sp) : Prop where
  ex : ∃ (f : Addr) (fd : FuncData) (ps : List Str), Mk K C f ∧ FnOk P w K mg base CX0 k f fd ps sp ∧ mg cn = some (.ref C) ∧ Binds K fd ps []
abbrev Body (P : Program) (w : World) (K : PySem.W.Frag) (mg : Str → Option Value) (base : Heap) (x : Str) (st : Stmt) (N : List Str) (k : Nat) (sp : Sp) : Prop :=
  ∀ (f : Addr) (cdv : Value) (A : Around) (outer : List Env) (s : Shared) (H : Hp) (vs : List V) (Q : VK) (E : XK), Room k (A.deeper (envOfC x (defScope st) s.heap.objs.size f cdv)) → sp vs H Q E →
    ∃ t, PSs (cxOf CX0 P w K mg base N x (defScope st) f cdv A outer s H E).nox (defBody st) t ∧ t { nx := fun _ H' => Q .non H', rt := Q } (start N vs) H
theorem MethIn.ok {C : Addr} {q m : Str} {st : Stmt} {N ps : List Str} {k : Nat} {sp : Sp} (D : MethIn K C q m st ps) (c : Cls K C) (S : FnScope N ps (defScope st)) (len : ∀ vs H Q E, sp vs H Q E → vs.length = ps.length)
    (hbody : Body P w K mg base q st N k sp) : MetC P w K mg base (k + 1) C m sp := by
  obtain ⟨f, fd, F, me, b⟩ := D.ex
  exact ⟨f, fd, ps, c, me, F.ok S len (fun cdv A outer s H vs Q E hr h => hbody f cdv A outer s H vs Q E hr h), b⟩
theorem PropIn.ok {C : Addr} {q m : Str} {st : Stmt} {N ps : List Str} {k : Nat} {sp : Sp} (D : PropIn K C q m st ps) (c : Cls K C) (S : FnScope N ps (defScope st)) (len : ∀ vs H Q E, sp vs H Q E → vs.length = ps.length)
    (hbody : Body P w K mg base q st N k sp) : PropC P w K mg base (k + 1) C m sp := by
  obtain ⟨r, f, fd, F, me, b⟩ := D.ex
  exact ⟨r, f, fd, ps, c, me, F.ok S len (fun cdv A outer s H vs Q E hr h => hbody f cdv A outer s H vs Q E hr h), b⟩
theorem InitIn.ok {C : Addr} {cn q : Str} {st : Stmt} {N ps : List Str} {k : Nat} {sp : Sp} (D : InitIn K mg C cn q st ps) (S : FnScope N ps (defScope st)) (len : ∀ vs H Q E, sp vs H Q E → vs.length = ps.length)
    (hbody : Body P w K mg base q st N k sp) : MakC P w K mg base (k + 1) cn C sp := by
  obtain ⟨f, fd, F, me, hm, b⟩ := D.ex
  exact ⟨f, fd, ps, me, F.ok S len (fun cdv A outer s H vs Q E hr h => hbody f cdv A outer s H vs Q E hr h), hm, b⟩
end
section
variable {X : Cx} {k j : Nat} {C : Addr} {x m : Str} {sp : Sp} {p pos apos : Pos} {e o : Expr} {es : List Expr} {ta : TE} {t : TA}
theorem vx_call0 (c : Cal X.prog X.w X.K X.mg X.base k x sp) (hr : Room j X.A) (hk : k ≤ j) (hg : Gl X x) (hdb : (x == ("__debug__" : Str)) = false := by decide) : PE X (.Call (.Name x p) [] [] pos) (tCall sp [] E0 tNil) := by
  obtain ⟨f, fd, ps, F, hm, kp, b⟩ := c.ex
  exact pe_call0 F (hr.mono hk) hg hm kp b .nil pass0 hdb
theorem vx_make (c : MakC X.prog X.w X.K X.mg X.base k x C sp) (hr : Room j X.A) (hk : k + 1 ≤ j) (hg : Gl X x) (ha : PA X (e :: es) t)
    (hdb : (x == ("__debug__" : Str)) = false := by decide) (he : starEach (e :: es) X.env = (false, eval e X.env) :: starEach es X.env := by rfl) (hpl : (backTo pos (starEach es X.env)).any (·.1) = false := by rfl) :
    PE X (.Call (.Name x p) (e :: es) [] pos) (tMake C sp [] E0 t) := by
  obtain ⟨f, fd, ps, M, F, hm, b⟩ := c.ex
  exact pe_make M F (hr.mono hk) hg hm b .nil pass0 ha hdb he hpl
theorem vx_make0 (c : MakC X.prog X.w X.K X.mg X.base k x C sp) (hr : Room j X.A) (hk : k + 1 ≤ j) (hg : Gl X x) (hdb : (x == ("__debug__" : Str)) = false := by decide) :
    PE X (.Call (.Name x p) [] [] pos) (tMake C sp [] E0 tNil) := by
  obtain ⟨f, fd, ps, M, F, hm, b⟩ := c.ex
  exact pe_make0 M F (hr.mono hk) hg hm b .nil pass0 hdb
theorem vx_meth {pl : Sem Bool} (c : MetC X.prog X.w X.K X.mg X.base k C m sp) (hr : Room j X.A) (hk : k ≤ j) (he : PE X o ta) (ha : PA X (e :: es) t)
    (hst : starEach (e :: es) X.env = (false, eval e X.env) :: starEach es X.env := by rfl) (hpl : (backTo pos (starEach es X.env)).any (·.1) = false := by rfl)
    (ht : eval (.Call (.Attribute o m apos) (e :: es) [] pos) X.env = (do
      let ov ← eval o X.env
      standAt apos.atName
      let (f, first) ← holding [ov] (getMethod ov m pl)
      callWith pos f first (backTo pos (starEach (e :: es) X.env)) (backToKw pos (keywordEach [] X.env))) := by rfl) :
    PE X (.Call (.Attribute o m apos) (e :: es) [] pos) (tMeth C m sp [] E0 ta t) := by
  obtain ⟨f, fd, ps, hc, hm, F, b⟩ := c.ex
  exact pe_meth he hc hm F (hr.mono hk) b .nil pass0 ha hst hpl ht
theorem vx_meth0 {pl : Sem Bool} (c : MetC X.prog X.w X.K X.mg X.base k C m sp) (hr : Room j X.A) (hk : k ≤ j) (he : PE X o ta)
    (ht : eval (.Call (.Attribute o m apos) [] [] pos) X.env = (do
      let ov ← eval o X.env
      standAt apos.atName
      let (f, first) ← holding [ov] (getMethod ov m pl)
      callWith pos f first (backTo pos (starEach [] X.env)) (backToKw pos (keywordEach [] X.env))) := by rfl) :
    PE X (.Call (.Attribute o m apos) [] [] pos) (tMeth C m sp [] E0 ta tNil) := by
  obtain ⟨f, fd, ps, hc, hm, F, b⟩ := c.ex
  exact pe_meth0 he hc hm F (hr.mono hk) b .nil pass0 ht
theorem vx_prop (c : PropC X.prog X.w X.K X.mg X.base k C m sp) (hr : Room j X.A) (hk : k + 1 ≤ j) (he : PE X o ta) (hab : attributeBase o m X.env (eval o X.env) = eval o X.env) : PE X (.Attribute o m pos) (tProp C sp [] E0 ta) := by
  obtain ⟨q, f, fd, ps, hc, hp, F, b⟩ := c.ex
  exact pe_prop he hc hp F (hr.mono hk) b .nil pass0 hab
end
theorem iteBNT {b : Bool} {A B : Prop} (h : b = false) (k : A) : if (!b) = true then A else B := by rw [h]; exact iteT k
theorem iteNN {b : Bool} {A B : Prop} (h : if b = true then A else B) : if (!!b) = true then A else B := by rw [Bool.not_not]; exact h
theorem iteBNF {b : Bool} {A B : Prop} (h : b = true) (k : B) : if (!b) = true then A else B := by rw [h]; exact iteF k
theorem shl_side {i j : Int} (h0 : 0 ≤ j) (h1 : j ≤ 4096) (h2 : -(2 ^ 4096) < i) (h3 : i < 2 ^ 4096) : CShl i j := by
  obtain ⟨k, rfl⟩ := Int.eq_ofNat_of_zero_le h0
  exact shl_ok (n := 4096) (by omega) (by omega)
end Vx

namespace Vx
open PySem PySem.Spec PyProof.Rows L2
section
variable {X : Cx} {K : PySem.W.Frag}
theorem fldK {e : Expr} {f : Str} {pos : Pos} {ta : TE} (he : PE X e ta) (hb : attributeBase e f X.env (eval e X.env) = eval e X.env := by rfl) (hK : X.K = K := by rfl) : PE X (.Attribute e f pos) (tFld K ta f) := hK ▸ pe_fld he hb
theorem pg_tupK {es : List Expr} {k : Nat} {t : TGs} {n : Nat} {pos : Pos} (h : PGs X es t) (hc : X.calm = true := by rfl)
    (hn : (assignEach es X.env).length = n := by rfl) (hst : (assignEach es X.env).findIdx? (·.1) = none := by rfl) (hK : X.K = K := by rfl) : PG X (.Tuple es k pos) (gTup K n t) := hK ▸ pg_tup hc h hn hst
end
end Vx

namespace Vx
open PySem PySem.Spec PyProof.Rows L2
section
variable {α β : Type} {f : α → PyData} {g : β → PyData} {fv : α → V} {gv : β → V} {G : Hp} {vs ws : List V} {xs : List α} {ys : List β}
theorem big1 {n : Nat} (h : n ≤ 1000000) : n ≤ sizeLine := smallE h
theorem cat_len (a : RpAll G vs (xs.map f)) (b : RpAll G ws (ys.map g)) (h : xs.length + ys.length ≤ 1000000) : vs.length + ws.length ≤ sizeLine := by
  rw [a.len, b.len, List.length_map, List.length_map]; exact smallE h
theorem cat_lenM (h : xs.length + ys.length ≤ 1000000) : (xs.map fv).length + (ys.map gv).length ≤ sizeLine := by
  rw [List.length_map, List.length_map]; exact smallE h
theorem rep_len {k : Nat} (a : RpAll G vs (xs.map f)) (h : xs.length * k ≤ 1000000) : vs.length * k ≤ sizeLine := by
  rw [a.len, List.length_map]; exact smallE h
theorem rep_lenM {k : Nat} (h : xs.length * k ≤ 1000000) : (xs.map fv).length * k ≤ sizeLine := by
  rw [List.length_map]; exact smallE h
theorem app_len (a : RpAll G vs (xs.map f)) (h : xs.length ≤ 1000000) : vs.length < sizeLine := by
  rw [a.len, List.length_map]; exact small h
theorem app_lenM (h : xs.length ≤ 1000000) : (xs.map fv).length < sizeLine := by
  rw [List.length_map]; exact small h
theorem cutL_len {α : Type} (xs : List α) (lo hi : Option Int) : (cutL xs lo hi).length ≤ xs.length := by
  unfold cutL
  rw [List.length_take, List.length_drop]
  omega
theorem repL_len {α : Type} (xs : List α) (k : Int) : (repL xs k).length = k.toNat * xs.length := by
  unfold repL
  simp
end
end Vx
/-! # promises of defs that know that nothing is being shown (so that repr may be called) -/
namespace Vx
open PySem PySem.Spec PyProof.Rows L2
structure RoomG (k : Nat) (A : Around) : Prop extends Room k A where
  gd : A.guards = some []
theorem RoomG.low {j k : Nat} {A : Around} (r : RoomG k A) (h : j ≤ k) : RoomG j A := ⟨r.toRoom.mono h, r.gd⟩
theorem RoomG.one {k : Nat} {A : Around} (r : RoomG (k + 1) A) : RoomG k A.in1 := ⟨r.toRoom.in1, r.gd⟩
theorem make_gd {A : Around} (C : Addr) (us : List Value) (kw : List (Str × Value)) (h : A.guards = some []) : (A.under (.builtin "type.__call__" ⟨.ref C :: us, kw⟩)).guards = some [] := by
  obtain ⟨hd, d, fr, gs, u⟩ := A
  subst h
  simp [Around.under, Code.guards, Code.isGuard, guardIds, pushGuards]
theorem RoomG.made {k : Nat} {A : Around} (r : RoomG (k + 1) A) (C : Addr) (us : List Value) (kw : List (Str × Value)) : RoomG k (A.under (.builtin "type.__call__" ⟨.ref C :: us, kw⟩)) := ⟨r.toRoom.make C us kw, make_gd C us kw r.gd⟩
structure FnG (P : Program) (w : World) (K : PySem.W.Frag) (mg : Str → Option Value) (base : Heap) (cx : CXT) (k : Nat) (f : Addr) (fd : FuncData) (ps : List Str) (sp : Sp) : Prop where
  len : ∀ vs H Q E, sp vs H Q E → vs.length = ps.length
  run : ∀ (A : Around) (outer : List Env) (s : Shared) (H : Hp) (args : Args) (us : List Value) (vs : List V) (Q : VK) (E : XK), RoomG k A → Env0 P w K mg base A outer s H → BindsTo s fd args (ps.zip us) → Vals vs us → sp vs H Q E → codeAny (model P w) A (.call (.ref f) args) (CR cx outer P w H s Q E) s
section
variable {P : Program} {w : World} {K : PySem.W.Frag} {mg : Str → Option Value} {base : Heap} {cx : CXT} {j k : Nat} {f : Addr} {fd : FuncData} {ps : List Str} {sp sp' : Sp}
theorem FnG.imp (F : FnG P w K mg base cx k f fd ps sp) (h : ∀ vs H Q E, sp' vs H Q E → sp vs H Q E) : FnG P w K mg base cx k f fd ps sp' := ⟨fun vs H Q E q => F.len vs H Q E (h vs H Q E q), fun A o s H a us vs Q E r e b v q => F.run A o s H a us vs Q E r e b v (h vs H Q E q)⟩
/-- the body's promise is the def's -/
theorem FnG.body {x qual : Str} {params : Arguments} {body : List Stmt} {scope : Scope} {dvs : List V} {kws : List (Str × V)} {N : List Str} (F : FunD K x qual params body scope dvs kws f fd) (S : FnScope N ps scope) (len : ∀ vs H Q E, sp vs H Q E → vs.length = ps.length)
    (hb : ∀ (cdv : Value) (A : Around) (outer : List Env) (s : Shared) (H : Hp) (vs : List V) (Q : VK) (E : XK), RoomG k (A.deeper (envOfC qual scope s.heap.objs.size f cdv)) → sp vs H Q E →
      ∃ t, PSs (cxOf cx P w K mg base N qual scope f cdv A outer s H E) body t ∧ t { nx := fun _ H' => Q .non H', rt := Q } (start N vs) H) : FnG P w K mg base cx (k + 1) f fd ps sp := by
  obtain ⟨oc, od, dV, kV, doc, pm, an, cdv, ct, osl, rfl, lk, code, _, _⟩ := F.ex
  constructor
  · exact len
  · intro A outer s H args us vs Q E room env binds vals prom
    have nvs := len vs H Q E prom
    have kin : K.In s.heap := env.mod.kin.keeps fun b o q => (env.bs b o q).1
    have nolim : s.heap.NoLimit := env.mod.nolimit.keeps fun b o q => (env.bs b o q).1
    have kinds : ∀ q ∈ ps.zip us, scope.names.lookup q.1 = some .local ∨ (scope.names.lookup q.1 = some .cell ∧ ((cellsFrom (s.heap.objs.size + 1) scope.names []).lookup q.1).isSome = true) := by
      rintro ⟨n, v⟩ hq
      cases S.par n (List.of_mem_zip hq).1 with
      | inl z => exact .inl z
      | inr z => exact .inr ⟨z, PySem.W.cellsFrom_some _ _ _ (.inl z)⟩
    refine codeAny_call_function room.toRoom.depth (kin _ _ lk) rfl S.co S.gen rfl (PySem.W.codeRec_of kin code) (binds _ _ _ _ ?_)
    refine wpAny_newFunctionEnv_cells S.kind kinds ?_
    rintro _ rfl s1 made
    refine ⟨nolim.keeps made.toInCall.keep, codeAny_func ?_⟩
    obtain ⟨t, pss, start_⟩ := hb cdv A outer s H vs Q E ⟨room.toRoom.deeper _, room.gd⟩ prom
    have inv := inv_start (CX := cx) (E := E) S room.hd env nvs vals made
    have close : ∀ {τ : L2.St} {H2 : Hp} {v : V} {u : Value} {s2 : Shared}, Inv (cxOf cx P w K mg base N qual scope f cdv A outer s H E) [] τ H2 s2 → RelV v u → Q v H2 → CE outer P w H s Q u s2 := fun inv2 rel q => ⟨_, _, inv2.os, inv2.bare, inv2.base, inv2.hok, rel, q⟩
    refine wpAny_mono (pss.run [] s1 (start N vs) H _ inv start_) ?_ fun _ _ z => z
    intro flow s2 out
    cases flow with
    | next =>
      obtain ⟨τ, H2, inv2, q⟩ := out
      exact close (v := .non) (u := .none) inv2 rfl q
    | ret u =>
      obtain ⟨v, τ, H2, inv2, rel, q⟩ := out
      exact close inv2 rel q
    | brk =>
      obtain ⟨_, _, _, q⟩ := out
      exact q.elim
    | cont =>
      obtain ⟨_, _, _, q⟩ := out
      exact q.elim
/-- the same of a body that nothing leaves -/
theorem FnG.bodyN {x qual : Str} {params : Arguments} {body : List Stmt} {scope : Scope} {dvs : List V} {kws : List (Str × V)} {N : List Str} (F : FunD K x qual params body scope dvs kws f fd) (S : FnScope N ps scope) (len : ∀ vs H Q E, sp vs H Q E → vs.length = ps.length)
    (hb : ∀ (cdv : Value) (A : Around) (outer : List Env) (s : Shared) (H : Hp) (vs : List V) (Q : VK) (E : XK), RoomG k (A.deeper (envOfC qual scope s.heap.objs.size f cdv)) → sp vs H Q E →
      ∃ t, PSs (cxOf CX0 P w K mg base N qual scope f cdv A outer s H E).nox body t ∧ t { nx := fun _ H' => Q .non H', rt := Q } (start N vs) H) : FnG P w K mg base CX0 (k + 1) f fd ps sp :=
  FnG.body F S len fun cdv A outer s H vs Q E r p => by
    obtain ⟨t, h, q⟩ := hb cdv A outer s H vs Q E r p
    exact ⟨t, h.nox, q⟩
end
/-- where a law's call begins: an abstract heap that tells the script at most -/
theorem law_start {P : Program} {w : World} {K : PySem.W.Frag} {mg mb : Str → Option Value} {a : Addr} {s : Shared} {vs : List Value} {ns : List Int} (kin : K.In s.heap) (top : s.heap.Ns mainGlobals mg) (blt : s.heap.Ns builtinsNs mb) (boot : ∀ y : Str, y ≠ "__name__" → mb y = bootBuiltins y)
    (lim : s.heap.NoLimit) (gens : s.gens = #[]) (script : s.heap.get? a = some { cls := .type "list", data := .seq vs.toArray }) (whole : IntsAre vs ns) (short : ns.length ≤ sizeLine) :
    ∃ (H : Hp) (base : Heap), SqL K H a (ns.map V.int) ∧ K.In base ∧ base.Ns mainGlobals mg ∧ Env0 P w K mg base callerA [] s H ∧
      ∀ (Z : V → Prop) (u : Value) (s2 : Shared), CE [] P w H s (fun v _ => Z v) u s2 → (∃ v, RelV v u ∧ Z v) ∧ OldK s.heap s2.heap ∧ s2.os = s.os ∧ AllBare s2.gens := by
  have rel := vals_ints whole
  have lenV := whole.length
  -- any H that tells no more than the script, and that only where the written part does not hold it, will do
  have fits : ∀ H : Hp, (∀ b, H b = none ∨ ∃ o xs, H b = some (.frz o (.lst xs))) → SqL K H a (ns.map V.int) → HOk P w H s.heap → (∀ b, b ≠ a → H b = none) → (∀ o, K.lookup a = some o → H a = none) →
      ∃ (H : Hp) (base : Heap), SqL K H a (ns.map V.int) ∧ K.In base ∧ base.Ns mainGlobals mg ∧ Env0 P w K mg base callerA [] s H ∧
        ∀ (Z : V → Prop) (u : Value) (s2 : Shared), CE [] P w H s (fun v _ => Z v) u s2 → (∃ v, RelV v u ∧ Z v) ∧ OldK s.heap s2.heap ∧ s2.os = s.os ∧ AllBare s2.gens := by
    intro H only seq ok else_ apart
    have dictFree : ∀ (b : Addr) (o : Obj) (es : Array DictEntry) (n : Nat), s.heap.get? b = some o → o.data = .dict es n → H b = none := by
      intro b o es n e d
      by_cases z : b = a
      · subst z
        rw [script] at e
        injection e with e
        subst e
        cases d
      · exact else_ b z
    have nsOf : ∀ {b : Addr} {m : Str → Option Value}, s.heap.Ns b m → (hidT s.heap H).Ns b m := by
      rintro b m ⟨o, es, n, e, d, r⟩
      exact ⟨o, es, n, hidT_get e (dictFree b o es n e d), d, r⟩
    have kinB : K.In (hidT s.heap H) := by
      intro b o e
      refine hidT_get (kin b o e) ?_
      by_cases z : b = a
      · subst z
        exact apart o e
      · exact else_ b z
    obtain ⟨mc, lim1, lim2⟩ := lim
    refine ⟨H, hidT s.heap H, seq, kinB, nsOf top, ⟨rfl, ⟨kinB, nsOf top, ⟨mb, nsOf blt, boot⟩, mc, nsOf lim1, lim2⟩, fun b o e => of_hidT e, Nat.le_of_eq (hidT_size _ _), trivial, fun b hb => (nomatch (show b ∈ ([] : List Addr) from hb)), ok, .of_eq gens⟩, ?_⟩
    rintro Z u s2 ⟨v, H2, os, bare, un, ok2, r, z⟩
    refine ⟨⟨v, r, z⟩, OldK.of_keep fun b o e => ?_, os, bare⟩
    rcases only b with n | ⟨o1, xs, n⟩
    · exact un.keep b o e n (fun y => nomatch (show b ∈ ([] : List Addr) from y)) (fun y => nomatch y)
    · obtain ⟨e1, _⟩ := ok b _ n
      obtain ⟨e2, _⟩ := ok2 b _ (un.frzs b o1 _ n)
      rw [e] at e1
      injection e1 with e1
      subst e1
      exact e2
  cases kl : K.lookup a with
  | some o =>
    have e := kin a o kl
    rw [script] at e
    injection e with e
    subst e
    exact fits (fun _ => none) (fun _ => .inl rfl) (.inr ⟨_, vs.toArray, _, kl, rfl, rfl, rfl, by rw [List.size_toArray, lenV]; exact short, by simpa using rel⟩) (fun _ _ z => nomatch z) (fun _ _ => rfl) fun _ _ => rfl
  | none =>
    refine fits (fun b => if b = a then some (.frz { cls := .type "list", data := .seq vs.toArray } (.lst (ns.map V.int))) else none) ?_ (.inl (.inr ⟨_, if_pos rfl⟩)) ?_ (fun b n => if_neg n) fun o z => ?_
    · intro b
      by_cases z : b = a
      · exact .inr ⟨_, _, if_pos z⟩
      · exact .inl (if_neg z)
    · intro b u q
      by_cases z : b = a
      · subst z
        have q := (if_pos rfl).symm.trans q
        injection q with q
        subst q
        exact ⟨script, by rw [List.length_map]; exact short, vs, _, rel, script⟩
      · have q := (if_neg z).symm.trans q
        cases q
    · rw [kl] at z
      cases z
/-- the goal that the head leaves, from the law's promise; the script's numbers have at most 2 ^ 20 bits -/
theorem walkG {l : PySem.W.OpenLaw} {n k : Nat} {q : Program} {loose : List Str} {XP : (Str → Option Value) → Heap → Prop} {YP : World → Heap → Prop} {d : DefRec} {K : Params → PySem.W.Frag} {x : Str} (hn : l.most = some n) (hn2 : n ≤ sizeLine) (hdf : d.params.defaults = []) (room : Room k callerA)
    (hY : ∀ (w : World) (h : Heap), YP w h → (K w.params).In h)
    (F : ∀ (w : World) (mg : Str → Option Value) (fa : Addr) (h : Heap), (K w.params).In h → h.Ns mainGlobals mg → mg d.name = some (.ref fa) →
      ∃ fd : FuncData, (∀ (s : Shared) (u : Value), BindsTo s fd ⟨[u], []⟩ [(x, u)]) ∧ ∀ base : Heap, (K w.params).In base → base.Ns mainGlobals mg → FnG l.prog w (K w.params) mg base CX0 k fa fd [x] (fun vs H Q _ => ∃ (a : Addr) (ns : List Int), vs = [.ref a] ∧ SqL (K w.params) H a (ns.map V.int) ∧ ns.length ≤ n ∧ ∀ H', Q (.bl true) H')) :
    PySem.W.WalkO q loose XP YP l.row.toRowW d [] (fun f vs => PySem.call f vs) := by
  refine Att.attach_call hn hdf ?_
  intro w s₀ s₁ mg mb fa o pm cd doc a vs ns G Y _ _ _ hmg script whole short gens
  have kin := hY w _ Y
  obtain ⟨fd, bind, prom⟩ := F w mg fa _ kin G.T.g hmg
  obtain ⟨H, base, seq, kinB, nsB, env, fin⟩ := law_start (P := l.prog) (w := w) kin G.T.g G.T.b G.T.builtins G.T.nolimit gens script whole (Nat.le_trans short hn2)
  refine codeAny_mono ((prom base kinB nsB).run callerA [] s₁ H ⟨[.ref a], []⟩ [.ref a] [.ref a] (fun v _ => v = .bl true) (fun _ _ _ => False) ⟨room, rfl⟩ env (bind s₁ (.ref a)) (.cons rfl .nil) ⟨a, ns, rfl, seq, short, fun _ => rfl⟩) ?_
  intro r s2 out
  cases r with
  | error e => exact out.elim
  | ok flow =>
    cases flow with
    | ret u =>
      obtain ⟨⟨v, rv, z⟩, h1, h2, h3⟩ := fin (fun v => v = .bl true) u s2 out
      subst z
      obtain rfl : u = Value.bool true := rv
      exact ⟨rfl, h1, h2, h3⟩
    | next => exact out.elim
    | brk => exact out.elim
    | cont => exact out.elim
end Vx
/-! # third part: what a def computes, as a plain function with refusals -/
namespace Vx
open PySem PySem.Spec PyProof.Rows L2
inductive Rx (α : Type) where
  | ok (a : α)
  | er (e : Nat)
  | bad
def Rx.bind {α β : Type} (m : Rx α) (f : α → Rx β) : Rx β :=
  match m with
  | .ok a => f a
  | .er e => .er e
  | .bad => .bad
/-- what is wanted of an outcome -/
@[irreducible] def cW {α : Type} (m : Rx α) (K : α → Prop) (E : Nat → Prop) : Prop :=
  match m with
  | .ok a => K a
  | .er e => E e
  | .bad => False
def grd {α : Type} (p : Prop) [Decidable p] (m : Rx α) : Rx α := if p then m else .bad
/-- within a comprehension nothing may be raised -/
def noEr {α : Type} (m : Rx α) : Rx α :=
  match m with
  | .ok a => .ok a
  | _ => .bad
/-- what the clause does not name may not come -/
def tryR {α β : Type} (m : Rx α) (cs : List Nat) (f : α → Rx β) (h : Nat → Rx β) : Rx β :=
  match m with
  | .ok a => f a
  | .er e => if e ∈ cs then h e else .bad
  | .bad => .bad
def bnd {α β : Type} (a : α) (f : α → Rx β) : Rx β := f a
inductive Lp (σ ρ : Type) where
  | go (s : σ)
  | bk (s : σ)
  | rt (r : ρ)
def Lp.aft {σ ρ τ : Type} (l : Lp σ ρ) (kr : ρ → Rx τ) (k : σ → Rx τ) : Rx τ :=
  match l with
  | .go s => k s
  | .bk s => k s
  | .rt r => kr r
def forS {σ α : Type} : List α → σ → (σ → α → Rx σ) → Rx σ
  | [], s, _ => .ok s
  | x :: r, s, f => (f s x).bind fun s' => forS r s' f
def forR {σ α ρ : Type} : List α → σ → (σ → α → Rx (Lp σ ρ)) → Rx (Lp σ ρ)
  | [], s, _ => .ok (.go s)
  | x :: r, s, f => (f s x).bind fun l =>
    match l with
    | .go s' => forR r s' f
    | .bk s' => .ok (.go s')
    | .rt v => .ok (.rt v)
def whileR {σ ρ : Type} : Nat → σ → (σ → Rx (Lp σ ρ)) → Rx (Lp σ ρ)
  | 0, _, _ => .bad
  | n + 1, s, f => (f s).bind fun l =>
    match l with
    | .go s' => whileR n s' f
    | .bk s' => .ok (.go s')
    | .rt v => .ok (.rt v)
def mapA {α β : Type} : List α → List β → (α → Rx β) → Rx (List β)
  | [], acc, _ => .ok acc
  | x :: r, acc, f => grd (acc.length ≤ 1000000) ((f x).bind fun y => mapA r (acc ++ [y]) f)
def mapF {α β : Type} : List α → List β → (α → Rx (Option β)) → Rx (List β)
  | [], acc, _ => .ok acc
  | x :: r, acc, f => grd (acc.length ≤ 1000000) ((f x).bind fun y =>
    match y with
    | some z => mapF r (acc ++ [z]) f
    | none => mapF r acc f)
section
variable {α β γ σ ρ τ : Type} {K : α → Prop} {E : Nat → Prop}
theorem cW_ok {a : α} (h : cW (.ok a) K E) : K a := by
  unfold cW at h
  exact h
theorem cW_er {e : Nat} (h : cW (.er e : Rx α) K E) : E e := by
  unfold cW at h
  exact h
theorem cW_bad {C : Prop} (h : cW (.bad : Rx α) K E) : C := by
  unfold cW at h
  exact h.elim
theorem cW_mk {a : α} (h : K a) : cW (.ok a) K E := by
  unfold cW
  exact h
theorem cW_mkE {e : Nat} (h : E e) : cW (.er e : Rx α) K E := by
  unfold cW
  exact h
theorem cW_gen {m : Rx α} (h : cW m K E) : ∃ (K' : α → Prop) (E' : Nat → Prop), (∀ v, K' v → K v) ∧ (∀ e, E' e → E e) ∧ cW m K' E' := ⟨K, E, fun _ x => x, fun _ x => x, h⟩
theorem cW_grd {p : Prop} {dp : Decidable p} {m : Rx α} (h : cW (grd p m) K E) : p ∧ cW m K E := by
  unfold grd at h
  split at h
  · exact ⟨‹p›, h⟩
  · exact cW_bad h
theorem cW_pos {p : Prop} {dp : Decidable p} {a b : Rx α} (c : p) (h : cW (if p then a else b) K E) : cW a K E := by rwa [if_pos c] at h
theorem cW_neg {p : Prop} {dp : Decidable p} {a b : Rx α} (c : ¬ p) (h : cW (if p then a else b) K E) : cW b K E := by rwa [if_neg c] at h
theorem cW_call {m : Rx β} {f : β → Rx α} {K2 : β → Prop} {E2 : Nat → Prop} (h : cW (m.bind f) K E) (ho : ∀ v, cW (f v) K E → K2 v) (he : ∀ e, E e → E2 e) : cW m K2 E2 := by
  cases m with
  | ok a => exact cW_mk (ho a h)
  | er e => exact cW_mkE (he e (cW_er (α := α) h))
  | bad => exact cW_bad (α := α) h
theorem cW_push {m : Rx β} {f : β → Rx α} (h : cW (m.bind f) K E) : ∃ K2 : β → Prop, (∀ v, K2 v → cW (f v) K E) ∧ cW m K2 E := ⟨fun v => cW (f v) K E, fun _ x => x, cW_call h (fun _ x => x) fun _ x => x⟩
theorem cW_name {m : Rx α} (h : cW m K E) : ∃ K' : α → Prop, (∀ v, K' v → K v) ∧ cW m K' E := ⟨K, fun _ x => x, h⟩
theorem cW_noEr {m : Rx α} (h : cW (noEr m) K E) : cW m K (fun _ => False) := by
  cases m with
  | ok a => exact cW_mk (cW_ok (α := α) h)
  | er e => exact cW_bad (α := α) h
  | bad => exact cW_bad (α := α) h
theorem cW_try {m : Rx β} {cs : List Nat} {f : β → Rx α} {g : Nat → Rx α} {K2 : β → Prop} {E2 : Nat → Prop} (h : cW (tryR m cs f g) K E) (ho : ∀ v, cW (f v) K E → K2 v) (hc : ∀ e, e ∈ cs → cW (g e) K E → E2 e) : cW m K2 E2 := by
  cases m with
  | ok a => exact cW_mk (ho a h)
  | er e =>
    have h2 : cW (if e ∈ cs then g e else .bad) K E := h
    by_cases q : e ∈ cs
    · exact cW_mkE (hc e q (cW_pos q h2))
    · exact cW_bad (cW_neg q h2)
  | bad => exact cW_bad (α := α) h
theorem cW_bnd {a : β} {f : β → Rx α} (h : cW (bnd a f) K E) : cW (f a) K E := h
theorem cW_negB {b : Bool} {x y : Rx α} (c : b = false) (h : cW (if b = true then x else y) K E) : cW y K E := cW_neg (by rw [c]; decide) h
theorem cW_forS {xs : List β} {i : Nat} {x : β} {s : α} {f : α → β → Rx α} (hx : xs[i]? = some x) (h : cW (forS (xs.drop i) s f) K E) : cW (f s x) (fun s' => cW (forS (xs.drop (i + 1)) s' f) K E) E := by
  rw [List.drop_eq_getElem?_toList_append, hx] at h
  exact cW_call h (fun _ z => z) fun _ z => z
theorem cW_forS0 {xs : List β} {n : Nat} {s : α} {f : α → β → Rx α} (hn : n = xs.length) (h : cW (forS (xs.drop n) s f) K E) : K s := by
  subst hn
  rw [List.drop_length] at h
  exact cW_ok h
theorem cW_forR {K : Lp σ ρ → Prop} {xs : List β} {i : Nat} {x : β} {s : σ} {f : σ → β → Rx (Lp σ ρ)} (hx : xs[i]? = some x) (h : cW (forR (xs.drop i) s f) K E) :
    cW (f s x) (fun l => match l with | .go s' => cW (forR (xs.drop (i + 1)) s' f) K E | .bk s' => K (.go s') | .rt v => K (.rt v)) E := by
  rw [List.drop_eq_getElem?_toList_append, hx] at h
  refine cW_call h (fun l z => ?_) fun _ z => z
  cases l with
  | go s' => exact z
  | bk s' => exact cW_ok (K := K) (a := .go s') z
  | rt v => exact cW_ok (K := K) (a := .rt v) z
theorem cW_forR0 {K : Lp σ ρ → Prop} {xs : List β} {n : Nat} {s : σ} {f : σ → β → Rx (Lp σ ρ)} (hn : n = xs.length) (h : cW (forR (xs.drop n) s f) K E) : K (.go s) := by
  subst hn
  rw [List.drop_length] at h
  exact cW_ok h
theorem cW_whileR {K : Lp σ ρ → Prop} {m : Nat} {s : σ} {f : σ → Rx (Lp σ ρ)} (h : cW (whileR m s f) K E) :
    ∃ n, m = n + 1 ∧ cW (f s) (fun l => match l with | .go s' => cW (whileR n s' f) K E | .bk s' => K (.go s') | .rt v => K (.rt v)) E := by
  cases m with
  | zero => exact cW_bad h
  | succ n =>
    refine ⟨n, rfl, cW_call h (fun l z => ?_) fun _ z => z⟩
    cases l with
    | go s' => exact z
    | bk s' => exact cW_ok (K := K) (a := .go s') z
    | rt v => exact cW_ok (K := K) (a := .rt v) z
theorem cW_mapA {K : List α → Prop} {xs : List β} {acc : List α} {i : Nat} {x : β} {f : β → Rx α} (hx : xs[i]? = some x) (h : cW (mapA (xs.drop i) acc f) K E) :
    acc.length ≤ 1000000 ∧ cW (f x) (fun y => cW (mapA (xs.drop (i + 1)) (acc ++ [y]) f) K E) E := by
  rw [List.drop_eq_getElem?_toList_append, hx] at h
  obtain ⟨z, h⟩ := cW_grd h
  exact ⟨z, cW_call h (fun _ z => z) fun _ z => z⟩
theorem cW_mapA0 {K : List α → Prop} {xs : List β} {acc : List α} {n : Nat} {f : β → Rx α} (hn : n = xs.length) (h : cW (mapA (xs.drop n) acc f) K E) : K acc := by
  subst hn
  rw [List.drop_length] at h
  exact cW_ok h
theorem cW_mapF {K : List α → Prop} {xs : List β} {acc : List α} {i : Nat} {x : β} {f : β → Rx (Option α)} (hx : xs[i]? = some x) (h : cW (mapF (xs.drop i) acc f) K E) :
    acc.length ≤ 1000000 ∧ cW (f x) (fun y => match y with | some z => cW (mapF (xs.drop (i + 1)) (acc ++ [z]) f) K E | none => cW (mapF (xs.drop (i + 1)) acc f) K E) E := by
  rw [List.drop_eq_getElem?_toList_append, hx] at h
  obtain ⟨z, h⟩ := cW_grd h
  refine ⟨z, cW_call h (fun y z => ?_) fun _ z => z⟩
  cases y with
  | none => exact z
  | some w => exact z
theorem cW_mapF0 {K : List α → Prop} {xs : List β} {acc : List α} {n : Nat} {f : β → Rx (Option α)} (hn : n = xs.length) (h : cW (mapF (xs.drop n) acc f) K E) : K acc := by
  subst hn
  rw [List.drop_length] at h
  exact cW_ok h
end
/-- the numbers of a range -/
def rng (lo : Int) (n : Nat) : List Int := (List.range n).map fun (j : Nat) => lo + (j : Int)
theorem rng_get {lo : Int} {n i : Nat} (h : i < n) : (rng lo n)[i]? = some (lo + (i : Int)) := by
  unfold rng
  rw [List.getElem?_map, List.getElem?_range h] <;> rfl
theorem rng_len (lo : Int) (n : Nat) : (rng lo n).length = n := by
  unfold rng
  rw [List.length_map, List.length_range]

def rngD (lo : Int) (n : Nat) : List Int := (List.range n).map fun (j : Nat) => lo + (j : Int) * (-1)
theorem rngD_get {lo : Int} {n i : Nat} (h : i < n) : (rngD lo n)[i]? = some (lo + (i : Int) * (-1)) := by
  unfold rngD
  rw [List.getElem?_map, List.getElem?_range h] <;> rfl
theorem rngD_len (lo : Int) (n : Nat) : (rngD lo n).length = n := by
  unfold rngD
  rw [List.length_map, List.length_range]

/-! ### calls that may raise -/
/-- what a call with n values and keywords ks gives the parameters -/
structure Bnd (K : PySem.W.Frag) (fd : FuncData) (ps : List Str) (n : Nat) (ks : List Str) (g : List V → List V → List V) : Prop where
  to : ∀ (s : Shared) (us ws : List Value) (vs zs : List V), K.In s.heap → vs.length = n → zs.length = ks.length → Vals vs us → Vals zs ws → ∃ vv : List Value, BindsTo s fd ⟨us, ks.zip ws⟩ (ps.zip vv) ∧ Vals (g vs zs) vv
theorem Bnd.of_kbn {K : PySem.W.Frag} {fd : FuncData} {ps ks : List Str} {n : Nat} {g : List Value → List Value → List Value} {gV : List V → List V → List V} (b : KBn K fd ps n ks g gV) : Bnd K fd ps n ks gV :=
  ⟨fun s us ws vs zs X l1 l2 r rz => ⟨g us ws, b.to s us ws X (r.length.symm.trans l1) (rz.length.symm.trans l2), b.rel r rz⟩⟩
theorem Bnd.all {K : PySem.W.Frag} {fd : FuncData} {ps ks : List Str} {n : Nat} {g : List V → List V → List V} (h : ∀ (us ws : List Value) (vs zs : List V), vs.length = n → zs.length = ks.length → Vals vs us → Vals zs ws →
    ∃ vv : List Value, bindArgs fd ⟨us, ks.zip ws⟩ = pure (ps.zip vv) ∧ Vals (g vs zs) vv) : Bnd K fd ps n ks g :=
  ⟨fun s us ws vs zs _ l1 l2 r rz => by
    obtain ⟨vv, e, q⟩ := h us ws vs zs l1 l2 r rz
    exact ⟨vv, BindsTo.of_eq e, q⟩⟩
abbrev Pat := Nat × List Str × (List V → List V → List V)
def Bnd1 (K : PySem.W.Frag) (fd : FuncData) (ps : List Str) (p : Pat) : Prop := Bnd K fd ps p.1 p.2.1 p.2.2
section
variable {P : Program} {w : World} {K : PySem.W.Frag} {mg : Str → Option Value} {base : Heap}
/-- a def of the top, with the ways it is called -/
structure DefX (K : PySem.W.Frag) (mg : Str → Option Value) (x : Str) (st : Stmt) (ps : List Str) (pats : List Pat) : Prop where
  ex : ∃ (f : Addr) (fd : FuncData) (dvs : List V) (kws : List (Str × V)), FunD K x x (defArgs st) (defBody st) (defScope st) dvs kws f fd ∧ mg x = some (.ref f) ∧ ∀ p ∈ pats, Bnd1 K fd ps p
structure CalX (P : Program) (w : World) (K : PySem.W.Frag) (mg : Str → Option Value) (base : Heap) (k : Nat) (x : Str) (sp : Sp) (pats : List Pat) : Prop where
  ex : ∃ (f : Addr) (fd : FuncData) (ps : List Str), FnG P w K mg base (L2.CX P w) k f fd ps sp ∧ mg x = some (.ref f) ∧ PySem.W.keepIn K (.ref f) = true ∧ ∀ p ∈ pats, Bnd1 K fd ps p
abbrev BodyX (P : Program) (w : World) (K : PySem.W.Frag) (mg : Str → Option Value) (base : Heap) (x : Str) (st : Stmt) (N : List Str) (k : Nat) (sp : Sp) : Prop :=
  ∀ (f : Addr) (cdv : Value) (A : Around) (outer : List Env) (s : Shared) (H : Hp) (vs : List V) (Q : VK) (E : XK), RoomG k (A.deeper (envOfC x (defScope st) s.heap.objs.size f cdv)) → sp vs H Q E →
    ∃ t, PSs (cxOf (L2.CX P w) P w K mg base N x (defScope st) f cdv A outer s H E) (defBody st) t ∧ t { nx := fun _ H' => Q .non H', rt := Q } (start N vs) H
theorem DefX.ok {x : Str} {st : Stmt} {N ps : List Str} {pats : List Pat} {k : Nat} {sp : Sp} (D : DefX K mg x st ps pats) (S : FnScope N ps (defScope st)) (len : ∀ vs H Q E, sp vs H Q E → vs.length = ps.length)
    (hbody : BodyX P w K mg base x st N k sp) : CalX P w K mg base (k + 1) x sp pats := by
  obtain ⟨f, fd, dvs, kws, F, hm, b⟩ := D.ex
  exact ⟨f, fd, ps, FnG.body F S len (fun cdv A outer s H vs Q E hr h => hbody f cdv A outer s H vs Q E hr h), hm, F.kp, b⟩
end
section
variable {X : Cx} {k j n : Nat} {f : Addr} {fd : FuncData} {ps ks : List Str} {g : List V → List V → List V} {sp : Sp} {x : Str} {pos p : Pos} {e : Expr} {es : List Expr} {kws : List Keyword} {t tk : TA} {W : WX}
theorem run_X {pins : List (Addr × Obj)} {σ : L2.St} {H : Hp} {s : Shared} {Q : VK} {us ws : List Value} {vs zs : List V} (F : FnG X.prog X.w X.K X.mg X.base (L2.CX X.prog X.w) k f fd ps sp) (hr : RoomG k X.A) (hb : Bnd X.K fd ps n ks g) (tkW : Takes X W)
    (I : Inv X pins σ H s) (r : Vals vs us) (rz : Vals zs ws) (l1 : vs.length = n) (l2 : zs.length = ks.length) (h : sp (g vs zs) H Q (WE W σ)) :
    wpAny (model X.prog X.w) X.A (call (.ref f) us (ks.zip ws)) (EP X pins σ Q) X.xe s := by
  obtain ⟨vv, b, r2⟩ := hb.to s us ws vs zs I.kIn l1 l2 r rz
  refine wpAny_call (codeAny_mono (F.run X.A X.stack s H ⟨us, ks.zip ws⟩ vv (g vs zs) Q (WE W σ) hr I.env0 b r2 h) fun rr s' hq => ?_)
  cases rr with
  | error er => exact passAt tkW σ pins H s er s' I hq
  | ok fl =>
    cases fl with
    | ret u => exact I.after hq
    | next => exact hq.elim
    | brk => exact hq.elim
    | cont => exact hq.elim
/-- f(e, .., k = v, ..) -/
def tCallX (n m : Nat) (sp : Sp) (g : List V → List V → List V) (W : WX) (t tk : TA) : TE := fun σ H Q => t σ H fun vs H1 => tk σ H1 fun zs H2 => vs.length = n ∧ zs.length = m ∧ sp (g vs zs) H2 Q (WE W σ)
theorem vx_callX {pats : List Pat} (c : CalX X.prog X.w X.K X.mg X.base k x sp pats) (pt : Pat) (hpt : pt ∈ pats) (hr : RoomG j X.A) (hk : k ≤ j) (tkW : Takes X W) (hg : Gl X x) (ha : PA X (e :: es) t) (hkw : PK X kws tk)
    (hall : (backToKw pos (keywordEach kws X.env)).all (·.1.isSome) = true := by rfl) (hks : (backToKw pos (keywordEach kws X.env)).filterMap (·.1) = pt.2.1 := by rfl)
    (hdb : (x == ("__debug__" : Str)) = false := by decide) (he : starEach (e :: es) X.env = (false, eval e X.env) :: starEach es X.env := by rfl)
    (hpl : ((backTo pos (starEach (e :: es) X.env)).any (·.1) || (backToKw pos (keywordEach kws X.env)).any (·.1.isNone)) = false := by rfl) :
    PE X (.Call (.Name x p) (e :: es) kws pos) (tCallX pt.1 pt.2.1.length sp pt.2.2 W t tk) := by
  obtain ⟨f, fd, ps, F, hm, kp, b⟩ := c.ex
  refine ⟨fun pins s σ H Q I h => ?_⟩
  refine wpAny_Call_Name_kw (ld_glob I hg hm ?_ hdb)
  refine PySem.W.callWith_KW (h₀ := X.base) I.ok.mod.kin kp hall (thn (ha.run pos pins s σ H _ I h) fun us s1 ⟨vs, H1, I1, r, q⟩ => ?_) hpl he
  refine thn (hkw.run pos pins s1 σ H1 _ I1 q) fun ws s2 ⟨zs, H2, I2, rz, l1, l2, q2⟩ => ⟨I2.kIn, ?_⟩
  rw [hks]
  exact run_X F (hr.low hk) (b pt hpt) tkW I2 r rz l1 l2 q2
theorem vx_callX0 {pats : List Pat} (c : CalX X.prog X.w X.K X.mg X.base k x sp pats) (pt : Pat) (hpt : pt ∈ pats) (hr : RoomG j X.A) (hk : k ≤ j) (tkW : Takes X W) (hg : Gl X x) (hks : pt.2.1 = [] := by rfl)
    (hdb : (x == ("__debug__" : Str)) = false := by decide) : PE X (.Call (.Name x p) [] [] pos) (tCallX pt.1 pt.2.1.length sp pt.2.2 W tNil tNil) := by
  obtain ⟨f, fd, ps, F, hm, kp, b⟩ := c.ex
  refine ⟨fun pins s σ H Q I h => ?_⟩
  refine wpAny_Call_Name_kw (ld_glob I hg hm ?_ hdb)
  obtain ⟨l1, l2, q2⟩ := h
  have hz := run_X (us := []) (ws := []) F (hr.low hk) (b pt hpt) tkW I .nil .nil l1 l2 q2
  rw [hks] at hz
  exact PySem.W.callWith_K0 I.kIn kp hz
end
/-! ### borrowed things -/
theorem Sep.bM {M : List Addr} {H0 G0 G H : Hp} {O : List (Addr)} (S : Sep M H0 G0 G H O) : Same (hideL M H0) H := fun b o e => by
  by_cases h : b ∈ M
  · rw [hideL_in h] at e
    cases e
  · rw [hideL_out h] at e
    exact S.base b o e h
theorem b_ne {M : List Addr} {H0 G0 G H : Hp} {O : List Addr} {a b : Addr} {o : HO} (h : (hideL M H0) a = some o) (S : Sep M H0 G0 G H O) (hb : b ∈ O) : a ≠ b := fun z => by
  subst z
  rcases (S.ow a hb).2.2 with q | q
  · rw [hideL_in q] at h
    cases h
  · by_cases hM : a ∈ M
    · rw [hideL_in hM] at h
      cases h
    · rw [hideL_out hM, q] at h
      cases h
theorem hide0 {H : Hp} : hideL [] H = H := by
  funext b
  unfold hideL
  rw [if_neg List.not_mem_nil]
theorem hide_nil {H : Hp} {a : Addr} {o : HO} (h : H a = some o) : (hideL [] H) a = some o := by
  rw [hide0]
  exact h
theorem Rp.hide_nil {H : Hp} {v : V} {d : PyData} (h : Rp H v d) : Rp (hideL [] H) v d := by
  rw [hide0]
  exact h
theorem Sep.startM {M : List Addr} {G H : Hp} (e : Same G H) (hM : ∀ a ∈ M, H a ≠ none) (hG : ∀ a ∈ M, G a = none) : Sep M H G G H M :=
  ⟨fun _ _ e _ => e, hM, e, Same.refl _, fun _ _ e => e, fun a ha => ⟨hG a ha, hM a ha, .inl ha⟩⟩
theorem Sep.gno {M : List Addr} {H0 G0 G H : Hp} {O L : List Addr} (S : Sep M H0 G0 G H O) (h : ∀ a ∈ L, a ∈ O) : ∀ a ∈ L, G a = none := fun a ha => (S.ow a (h a ha)).1
theorem RpAll.ixD {α : Type} [Inhabited α] {f : α → PyData} {H : Hp} {vs : List V} {xs : List α} {k : Int} (r : RpAll H vs (xs.map f)) (h : -(xs.length : Int) ≤ k ∧ k < xs.length) : ∃ v, atI vs k = some v ∧ Rp H v (f (itD xs k)) := by
  obtain ⟨v, x, h1, h2, h3⟩ := RpAll.ix r h
  refine ⟨v, h1, ?_⟩
  unfold itD
  rw [h2]
  exact h3
theorem tru_all {α : Type} [DecidableEq α] {f : α → PyData} {H : Hp} {vs : List V} {xs : List α} (r : RpAll H vs (xs.map f)) : (!decide (xs = [])) = !vs.isEmpty := by
  have h := r.len
  rw [List.length_map] at h
  cases xs <;> cases vs <;> simp_all
theorem ix_nn {α : Type} {xs : List α} {k : Int} (h0 : 0 ≤ k) (h1 : k < xs.length) : -(xs.length : Int) ≤ k ∧ k < xs.length := ⟨by omega, h1⟩
theorem all_nilQ {α : Type} {P : α → Prop} : ∀ x ∈ ([] : List α), P x := fun x h => by cases h
theorem all_consQ {α : Type} {P : α → Prop} {a : α} {l : List α} (h : P a) (t : ∀ x ∈ l, P x) : ∀ x ∈ a :: l, P x := fun x hx => by
  rcases List.mem_cons.mp hx with rfl | hx
  · exact h
  · exact t x hx
theorem mem_one {a b : Nat} (h : a ∈ [b]) : a = b := by simpa using h
theorem mem_cons2 {a b : Nat} {l : List Nat} (h : a ∈ b :: l) : a = b ∨ a ∈ l := List.mem_cons.mp h
theorem len0 {α : Type} {l : List α} (h : l.length = 0) : l = [] := List.length_eq_zero_iff.mp h
theorem len1 {α : Type} {l : List α} (h : l.length = 1) : ∃ a, l = [a] := List.length_eq_one_iff.mp h
theorem len_s {α : Type} {l : List α} {n : Nat} (h : l.length = n + 1) : ∃ a r, l = a :: r ∧ r.length = n := by
  cases l with
  | nil => cases h
  | cons a r => exact ⟨a, r, rfl, Nat.succ.inj h⟩
theorem len2 {α : Type} {l : List α} (h : l.length = 2) : ∃ a b, l = [a, b] := by
  obtain ⟨a, r, rfl, h2⟩ := len_s h
  obtain ⟨b, rfl⟩ := len1 h2
  exact ⟨a, b, rfl⟩
theorem len3 {α : Type} {l : List α} (h : l.length = 3) : ∃ a b c, l = [a, b, c] := by
  obtain ⟨a, r, rfl, h2⟩ := len_s h
  obtain ⟨b, c, rfl⟩ := len2 h2
  exact ⟨a, b, c, rfl⟩
theorem len4 {α : Type} {l : List α} (h : l.length = 4) : ∃ a b c d, l = [a, b, c, d] := by
  obtain ⟨a, r, rfl, h2⟩ := len_s h
  obtain ⟨b, c, d, rfl⟩ := len3 h2
  exact ⟨a, b, c, d, rfl⟩
theorem len5 {α : Type} {l : List α} (h : l.length = 5) : ∃ a b c d e, l = [a, b, c, d, e] := by
  obtain ⟨a, r, rfl, h2⟩ := len_s h
  obtain ⟨b, c, d, e, rfl⟩ := len4 h2
  exact ⟨a, b, c, d, e, rfl⟩
theorem len6 {α : Type} {l : List α} (h : l.length = 6) : ∃ a b c d e f, l = [a, b, c, d, e, f] := by
  obtain ⟨a, r, rfl, h2⟩ := len_s h
  obtain ⟨b, c, d, e, f, rfl⟩ := len5 h2
  exact ⟨a, b, c, d, e, f, rfl⟩
theorem len7 {α : Type} {l : List α} (h : l.length = 7) : ∃ a b c d e f g, l = [a, b, c, d, e, f, g] := by
  obtain ⟨a, r, rfl, h2⟩ := len_s h
  obtain ⟨b, c, d, e, f, g, rfl⟩ := len6 h2
  exact ⟨a, b, c, d, e, f, g, rfl⟩
def rLenTK (K : PySem.W.Frag) : List V → Hp → VK → Prop := fun xs H Q => ∃ (p : Addr) (vs : List V) (n : Nat), xs = [.ref p] ∧ SqT K H p vs ∧ vs.length = n ∧ Q (.int (n : Int)) H
theorem call_lenTK {X : Cx} {K : PySem.W.Frag} (hK : X.K = K := by rfl) : CallR X (.builtin "len") (rLenTK K) := by
  subst hK
  intro pins s σ H xs us Q I r h
  obtain ⟨p, vs, n, rfl, hs, hn, q⟩ := h
  exact call_len_seq pins s σ H _ us Q I r ⟨p, _, rfl, Or.inr hs, by rw [hn]; exact q⟩
theorem exm_mk {K : PySem.W.Frag} {S C : Addr} (h1 : PySem.W.subIn K (.ref C) (.type "BaseException") = some true) (h2 : PySem.W.isClsIn K C = true) (h3 : PySem.W.typeIn K (.ref C) = some (.type "type")) (h4 : PySem.W.subIn K (.ref S) (.ref C) = some true) :
    PySem.W.exmOne K (.ref S) (.ref C) = some true := by
  unfold PySem.W.isClsIn at h2
  unfold PySem.W.exmOne
  unfold PySem.W.kitCls
  simp only [h1, h2, h3, h4, beq_self_eq_true, Bool.and_self, if_true]
theorem kit_mk {K : PySem.W.Frag} {S C : Addr} (h2 : PySem.W.isClsIn K C = true) (h3 : PySem.W.typeIn K (.ref C) = some (.type "type")) (h4 : PySem.W.subIn K (.ref S) (.ref C) = some true) :
    PySem.W.kitOne K (.ref S) (.ref C) = some true := by
  unfold PySem.W.isClsIn at h2
  unfold PySem.W.kitOne
  split
  · rfl
  · unfold PySem.W.kitCls
    simp only [h2, h3, h4, beq_self_eq_true, Bool.and_self, if_true]
/-- isinstance(e, C) of the exception in hand -/
def rIsX (K : PySem.W.Frag) (a : Addr) (cls : Value) (d : Option Addr) : List V → Hp → VK → Prop := fun xs H Q => ∃ (D C : Addr) (b : Bool), cls = .ref D ∧ d = none ∧ ExcC K D ∧ xs = [.ref a, .ref C] ∧ PySem.W.kitOne K (.ref D) (.ref C) = some b ∧ Q (.bl b) H
theorem call_isX {X : Cx} {K : PySem.W.Frag} {a : Addr} {cls : Value} {d : Option Addr} {oe : Obj} {pn : List (Addr × Obj)} (hz : Zc cls d oe) (hf : ∃ vs, oe.data = .fields vs) (hK : X.K = K := by rfl) : CallR (X.suite a ((a, oe) :: pn)) (.builtin "isinstance") (rIsX K a cls d) := by
  subst hK
  intro pins s σ H xs us Q I r h
  obtain ⟨D, C, b, rfl, rfl, c, rfl, e, q⟩ := h
  exact call_isE c hz hf pins s σ H _ us Q I r ⟨_, _, b, rfl, fun u z => z, e, q⟩
/-! ### unpacking a list -/
section
variable {X : Cx} {K : PySem.W.Frag} {pos : Pos}
theorem pg_seqK {es : List Expr} {k : Nat} {t : TGs} {n : Nat} (h : PGs X es t) (hc : X.calm = true := by rfl) (hK : X.K = K := by rfl)
    (hn : (assignEach es X.env).length = n := by rfl) (hst : (assignEach es X.env).findIdx? (·.1) = none := by rfl) : PG X (.Tuple es k pos) (gLst K n t) := hK ▸ pg_lst hc h hn hst
end
theorem SqL.cast {K : PySem.W.Frag} {H : Hp} {a : Addr} {xs ys : List V} (h : SqL K H a xs) (e : xs = ys) : SqL K H a ys := e ▸ h
section
variable {α : Type} [Inhabited α] {f : α → V}
theorem unp2 {xs : List α} (h : xs.length = 2) : xs.map f = [f (itD xs 0), f (itD xs 1)] := by
  obtain ⟨a, b, rfl⟩ := len2 h
  rfl
theorem unp3 {xs : List α} (h : xs.length = 3) : xs.map f = [f (itD xs 0), f (itD xs 1), f (itD xs 2)] := by
  obtain ⟨a, b, c, rfl⟩ := len3 h
  rfl
theorem unp4 {xs : List α} (h : xs.length = 4) : xs.map f = [f (itD xs 0), f (itD xs 1), f (itD xs 2), f (itD xs 3)] := by
  obtain ⟨a, b, c, d, rfl⟩ := len4 h
  rfl
theorem unp6 {xs : List α} (h : xs.length = 6) : xs.map f = [f (itD xs 0), f (itD xs 1), f (itD xs 2), f (itD xs 3), f (itD xs 4), f (itD xs 5)] := by
  obtain ⟨a, b, c, d, e, g, rfl⟩ := len6 h
  rfl
theorem unp8 {xs : List α} (h : xs.length = 8) : xs.map f = [f (itD xs 0), f (itD xs 1), f (itD xs 2), f (itD xs 3), f (itD xs 4), f (itD xs 5), f (itD xs 6), f (itD xs 7)] := by
  obtain ⟨a, r, rfl, h2⟩ := len_s h
  obtain ⟨b, c, d, e, g, i, j, rfl⟩ := len7 h2
  rfl
end
/-! ### classes -/
section
variable {P : Program} {w : World} {K : PySem.W.Frag} {mg : Str → Option Value} {base : Heap}
structure MethX (K : PySem.W.Frag) (C : Addr) (q m : Str) (st : Stmt) (ps : List Str) (pats : List Pat) : Prop where
  ex : ∃ (f : Addr) (fd : FuncData) (dvs : List V) (kws : List (Str × V)), FunD K m q (defArgs st) (defBody st) (defScope st) dvs kws f fd ∧ Meth K C m f ∧ ∀ p ∈ pats, Bnd1 K fd ps p
structure InitX (K : PySem.W.Frag) (mg : Str → Option Value) (C : Addr) (cn q : Str) (st : Stmt) (ps : List Str) (pats : List Pat) : Prop where
  ex : ∃ (f : Addr) (fd : FuncData) (dvs : List V) (kws : List (Str × V)), FunD K "__init__" q (defArgs st) (defBody st) (defScope st) dvs kws f fd ∧ Mk K C f ∧ mg cn = some (.ref C) ∧ ∀ p ∈ pats, Bnd1 K fd ps p
structure PropX (K : PySem.W.Frag) (C : Addr) (q m : Str) (st : Stmt) (ps : List Str) (pats : List Pat) : Prop where
  ex : ∃ (r f : Addr) (fd : FuncData) (dvs : List V) (kws : List (Str × V)), FunD K m q (defArgs st) (defBody st) (defScope st) dvs kws f fd ∧ PropOf K C m r f ∧ Binds K fd ps []
structure MetX (P : Program) (w : World) (K : PySem.W.Frag) (mg : Str → Option Value) (base : Heap) (k : Nat) (C : Addr) (m : Str) (sp : Sp) (pats : List Pat) : Prop where
  ex : ∃ (f : Addr) (fd : FuncData) (ps : List Str), Cls K C ∧ Meth K C m f ∧ FnG P w K mg base (L2.CX P w) k f fd ps sp ∧ ∀ p ∈ pats, Bnd1 K fd ps p
structure PropY (P : Program) (w : World) (K : PySem.W.Frag) (mg : Str → Option Value) (base : Heap) (k : Nat) (C : Addr) (m : Str) (sp : Sp) (pats : List Pat) : Prop where
  ex : ∃ (q f : Addr) (fd : FuncData) (ps : List Str), Cls K C ∧ PropOf K C m q f ∧ FnG P w K mg base (L2.CX P w) k f fd ps sp ∧ Binds K fd ps []
structure MakX (P : Program) (w : World) (K : PySem.W.Frag) (mg : Str → Option Value) (base : Heap) (k : Nat) (cn : Str) (C : Addr) (sp : Sp) (pats : List Pat) : Prop where
  ex : ∃ (f : Addr) (fd : FuncData) (ps : List Str), Mk K C f ∧ FnG P w K mg base (L2.CX P w) k f fd ps sp ∧ mg cn = some (.ref C) ∧ ∀ p ∈ pats, Bnd1 K fd ps p
theorem MethX.ok {C : Addr} {q m : Str} {st : Stmt} {N ps : List Str} {pats : List Pat} {k : Nat} {sp : Sp} (D : MethX K C q m st ps pats) (c : Cls K C) (S : FnScope N ps (defScope st)) (len : ∀ vs H Q E, sp vs H Q E → vs.length = ps.length)
    (hbody : BodyX P w K mg base q st N k sp) : MetX P w K mg base (k + 1) C m sp pats := by
  obtain ⟨f, fd, dvs, kws, F, me, b⟩ := D.ex
  exact ⟨f, fd, ps, c, me, FnG.body F S len (fun cdv A outer s H vs Q E hr h => hbody f cdv A outer s H vs Q E hr h), b⟩
theorem PropX.ok {C : Addr} {q m : Str} {st : Stmt} {N ps : List Str} {pats : List Pat} {k : Nat} {sp : Sp} (D : PropX K C q m st ps pats) (c : Cls K C) (S : FnScope N ps (defScope st)) (len : ∀ vs H Q E, sp vs H Q E → vs.length = ps.length)
    (hbody : BodyX P w K mg base q st N k sp) : PropY P w K mg base (k + 1) C m sp pats := by
  obtain ⟨r, f, fd, dvs, kws, F, me, b⟩ := D.ex
  exact ⟨r, f, fd, ps, c, me, FnG.body F S len (fun cdv A outer s H vs Q E hr h => hbody f cdv A outer s H vs Q E hr h), b⟩
theorem InitX.ok {C : Addr} {cn q : Str} {st : Stmt} {N ps : List Str} {pats : List Pat} {k : Nat} {sp : Sp} (D : InitX K mg C cn q st ps pats) (S : FnScope N ps (defScope st)) (len : ∀ vs H Q E, sp vs H Q E → vs.length = ps.length)
    (hbody : BodyX P w K mg base q st N k sp) : MakX P w K mg base (k + 1) cn C sp pats := by
  obtain ⟨f, fd, dvs, kws, F, me, hm, b⟩ := D.ex
  exact ⟨f, fd, ps, me, FnG.body F S len (fun cdv A outer s H vs Q E hr h => hbody f cdv A outer s H vs Q E hr h), hm, b⟩
end
theorem cW_callN {α β : Type} {m : Rx β} {f : β → Rx α} {K : α → Prop} {E : Nat → Prop} {K2 : β → Prop} {E2 : Nat → Prop} (h : cW ((noEr m).bind f) K E) (ho : ∀ v, cW (f v) K E → K2 v) (_ : True) : cW m K2 E2 := by
  cases m with
  | ok a => exact cW_mk (ho a h)
  | er e => exact cW_bad (α := α) h
  | bad => exact cW_bad (α := α) h
section
variable {X : Cx} {k j n : Nat} {f C : Addr} {fd : FuncData} {ps ks : List Str} {g : List V → List V → List V} {sp : Sp} {x m : Str} {pos p apos : Pos} {e o : Expr} {es : List Expr} {kws : List Keyword} {ta : TE} {t tk : TA} {W : WX}
theorem run_mkX {pins : List (Addr × Obj)} {σ : L2.St} {H : Hp} {s : Shared} {Q : VK} {us ws : List Value} {vs zs : List V} (M : Mk X.K C f) (F : FnG X.prog X.w X.K X.mg X.base (L2.CX X.prog X.w) k f fd ps sp) (hr : RoomG (k + 1) X.A) (hb : Bnd X.K fd ps n ks g) (tkW : Takes X W)
    (I : Inv X pins σ H s) (r : Vals vs us) (rz : Vals zs ws) (l1 : vs.length + 1 = n) (l2 : zs.length = ks.length)
    (h : ∀ x dx, H x = none → H dx = none → dx ≠ x → sp (g (.ref x :: vs) zs) (upd (upd H dx (.own x)) x (.ins C dx [])) (fun v H2 => v = .non ∧ Q (.ref x) H2) (WE W σ)) :
    wpAny (model X.prog X.w) X.A (call (.ref C) us (ks.zip ws)) (EP X pins σ Q) X.xe s := by
  have hq := h (s.heap.objs.size + 1) s.heap.objs.size (I.hok.fresh (Nat.le_succ _)) (I.hok.fresh (Nat.le_refl _)) (Nat.ne_of_lt (Nat.lt_succ_self _))
  have I2 := Inv.made (C := C) I
  have r1 : Vals (V.ref (s.heap.objs.size + 1) :: vs) (Value.ref (s.heap.objs.size + 1) :: us) := .cons rfl r
  obtain ⟨vv, b, r2⟩ := hb.to _ (Value.ref (s.heap.objs.size + 1) :: us) ws (V.ref (s.heap.objs.size + 1) :: vs) zs I2.kIn (by rw [List.length_cons, l1]) l2 r1 rz
  refine wpAny_call (make_map (f := f) I.kIn M.makes M.init (beq_iff_eq.mp M.fn) (codeAny_mono (F.run _ X.stack _ _ ⟨Value.ref (s.heap.objs.size + 1) :: us, ks.zip ws⟩ vv _ _ (WE W σ) (hr.made C us (ks.zip ws))
    (I2.env0.make C us (ks.zip ws)) b r2 hq) fun r s' hq' => ?_))
  cases r with
  | error e => exact passAt tkW σ pins _ _ e s' I2 hq'
  | ok fl =>
    cases fl with
    | ret u =>
      obtain ⟨v, H', I3, rv, ev, q3⟩ := I2.after hq'
      subst ev
      exact ⟨rv, ⟨V.ref (s.heap.objs.size + 1), H', I3, rfl, q3⟩⟩
    | next => exact False.elim hq'
    | brk => exact False.elim hq'
    | cont => exact False.elim hq'
/-- C(e, .., k = v, ..) -/
def tMakeX (C : Addr) (n m : Nat) (sp : Sp) (g : List V → List V → List V) (W : WX) (t tk : TA) : TE := fun σ H Q => t σ H fun vs H1 => tk σ H1 fun zs H2 => vs.length + 1 = n ∧ zs.length = m ∧ ∀ x dx, H2 x = none → H2 dx = none → dx ≠ x →
  sp (g (.ref x :: vs) zs) (upd (upd H2 dx (.own x)) x (.ins C dx [])) (fun v H3 => v = .non ∧ Q (.ref x) H3) (WE W σ)
theorem vx_makeX {pats : List Pat} (c : MakX X.prog X.w X.K X.mg X.base k x C sp pats) (pt : Pat) (hpt : pt ∈ pats) (hr : RoomG j X.A) (hk : k + 1 ≤ j) (tkW : Takes X W) (hg : Gl X x) (ha : PA X (e :: es) t) (hkw : PK X kws tk)
    (hall : (backToKw pos (keywordEach kws X.env)).all (·.1.isSome) = true := by rfl) (hks : (backToKw pos (keywordEach kws X.env)).filterMap (·.1) = pt.2.1 := by rfl) (hdb : (x == ("__debug__" : Str)) = false := by decide)
    (he : starEach (e :: es) X.env = (false, eval e X.env) :: starEach es X.env := by rfl) (hpl : ((backTo pos (starEach (e :: es) X.env)).any (·.1) || (backToKw pos (keywordEach kws X.env)).any (·.1.isNone)) = false := by rfl) :
    PE X (.Call (.Name x p) (e :: es) kws pos) (tMakeX C pt.1 pt.2.1.length sp pt.2.2 W t tk) := by
  obtain ⟨f, fd, ps, M, F, hm, b⟩ := c.ex
  refine ⟨fun pins s σ H Q I h => ?_⟩
  refine wpAny_Call_Name_kw (ld_glob I hg hm ?_ hdb)
  refine PySem.W.callWith_KW (h₀ := X.base) I.ok.mod.kin M.kp hall (thn (ha.run pos pins s σ H _ I h) fun us s1 ⟨vs, H1, I1, r, q⟩ => ?_) hpl he
  refine thn (hkw.run pos pins s1 σ H1 _ I1 q) fun ws s2 ⟨zs, H2, I2, rz, l1, l2, q2⟩ => ⟨I2.kIn, ?_⟩
  rw [hks]
  exact run_mkX M F (hr.low hk) (b pt hpt) tkW I2 r rz l1 l2 q2
theorem vx_makeX0 {pats : List Pat} (c : MakX X.prog X.w X.K X.mg X.base k x C sp pats) (pt : Pat) (hpt : pt ∈ pats) (hr : RoomG j X.A) (hk : k + 1 ≤ j) (tkW : Takes X W) (hg : Gl X x) (hks : pt.2.1 = [] := by rfl)
    (hdb : (x == ("__debug__" : Str)) = false := by decide) : PE X (.Call (.Name x p) [] [] pos) (tMakeX C pt.1 pt.2.1.length sp pt.2.2 W tNil tNil) := by
  obtain ⟨f, fd, ps, M, F, hm, b⟩ := c.ex
  refine ⟨fun pins s σ H Q I h => ?_⟩
  refine wpAny_Call_Name_kw (ld_glob I hg hm ?_ hdb)
  obtain ⟨l1, l2, q2⟩ := h
  have hz := run_mkX (us := []) (ws := []) M F (hr.low hk) (b pt hpt) tkW I .nil .nil l1 l2 q2
  rw [hks] at hz
  exact PySem.W.callWith_K0 I.kIn M.kp hz
/-- o.m(e, .., k = v, ..) -/
def tMethX (C : Addr) (m : Str) (n mm : Nat) (sp : Sp) (g : List V → List V → List V) (W : WX) (ta : TE) (t tk : TA) : TE := fun σ H Q => ta σ H fun x H1 => ∃ a dx fs, x = .ref a ∧ H1 a = some (.ins C dx fs) ∧ fs.lookup m = none ∧
  t σ H1 fun vs H2 => tk σ H2 fun zs H3 => (x :: vs).length = n ∧ zs.length = mm ∧ sp (g (x :: vs) zs) H3 Q (WE W σ)
theorem vx_methX {pats : List Pat} {pl : Sem Bool} (c : MetX X.prog X.w X.K X.mg X.base k C m sp pats) (pt : Pat) (hpt : pt ∈ pats) (hr : RoomG j X.A) (hk : k ≤ j) (tkW : Takes X W) (he : PE X o ta) (ha : PA X (e :: es) t) (hkw : PK X kws tk)
    (hall : (backToKw pos (keywordEach kws X.env)).all (·.1.isSome) = true := by rfl) (hks : (backToKw pos (keywordEach kws X.env)).filterMap (·.1) = pt.2.1 := by rfl)
    (hst : starEach (e :: es) X.env = (false, eval e X.env) :: starEach es X.env := by rfl) (hpl : ((backTo pos (starEach (e :: es) X.env)).any (·.1) || (backToKw pos (keywordEach kws X.env)).any (·.1.isNone)) = false := by rfl)
    (ht : eval (.Call (.Attribute o m apos) (e :: es) kws pos) X.env = (do
      let ov ← eval o X.env
      standAt apos.atName
      let (f, first) ← holding [ov] (getMethod ov m pl)
      callWith pos f first (backTo pos (starEach (e :: es) X.env)) (backToKw pos (keywordEach kws X.env))) := by rfl) :
    PE X (.Call (.Attribute o m apos) (e :: es) kws pos) (tMethX C m pt.1 pt.2.1.length sp pt.2.2 W ta t tk) := by
  obtain ⟨f, fd, ps, hc, hm, F, b⟩ := c.ex
  refine ⟨fun pins s σ H Q I h => ?_⟩
  refine PySem.W.methodCall_KW (pl := pl) (thn (he.run pins s σ H _ I h) fun u s1 ⟨x, H1, I1, rx, a, dx, fs, ex, ea, l, q⟩ => ?_) ht
  subst ex
  obtain rfl : u = Value.ref a := rx
  refine getmeth_ok I1 ea hc hm l ?_
  refine PySem.W.callWith_KW (first := [.ref a]) (h₀ := X.base) I.ok.mod.kin hm.kp hall (thn (ha.run pos pins s1 σ H1 _ I1 q) fun us s2 ⟨vs, H2, I2, r, q2⟩ => ?_) hpl hst
  refine thn (hkw.run pos pins s2 σ H2 _ I2 q2) fun ws s3 ⟨zs, H3, I3, rz, l1, l2, q3⟩ => ⟨I3.kIn, ?_⟩
  rw [hks]
  exact run_X (us := .ref a :: us) (vs := .ref a :: vs) F (hr.low hk) (b pt hpt) tkW I3 (.cons rfl r) rz l1 l2 q3
theorem vx_methX0 {pats : List Pat} {pl : Sem Bool} (c : MetX X.prog X.w X.K X.mg X.base k C m sp pats) (pt : Pat) (hpt : pt ∈ pats) (hr : RoomG j X.A) (hk : k ≤ j) (tkW : Takes X W) (he : PE X o ta) (hks : pt.2.1 = [] := by rfl)
    (ht : eval (.Call (.Attribute o m apos) [] [] pos) X.env = (do
      let ov ← eval o X.env
      standAt apos.atName
      let (f, first) ← holding [ov] (getMethod ov m pl)
      callWith pos f first (backTo pos (starEach [] X.env)) (backToKw pos (keywordEach [] X.env))) := by rfl) :
    PE X (.Call (.Attribute o m apos) [] [] pos) (tMethX C m pt.1 pt.2.1.length sp pt.2.2 W ta tNil tNil) := by
  obtain ⟨f, fd, ps, hc, hm, F, b⟩ := c.ex
  refine ⟨fun pins s σ H Q I h => ?_⟩
  refine PySem.W.methodCall_KW (pl := pl) (thn (he.run pins s σ H _ I h) fun u s1 ⟨x, H1, I1, rx, a, dx, fs, ex, ea, l, q⟩ => ?_) ht
  subst ex
  obtain rfl : u = Value.ref a := rx
  refine getmeth_ok I1 ea hc hm l ?_
  obtain ⟨l1, l2, q3⟩ := q
  have hz := run_X (us := [.ref a]) (vs := [.ref a]) (ws := []) F (hr.low hk) (b pt hpt) tkW I1 (.cons rfl .nil) .nil l1 l2 q3
  rw [hks] at hz
  exact PySem.W.callWith_K0 (first := [.ref a]) I1.kIn hm.kp hz
theorem vx_propX {pats : List Pat} (c : PropY X.prog X.w X.K X.mg X.base k C m sp pats) (hr : RoomG j X.A) (hk : k + 1 ≤ j) (he : PE X o ta) (hab : attributeBase o m X.env (eval o X.env) = eval o X.env := by rfl) : PE X (.Attribute o m pos) (tProp C sp [] E0 ta) := by
  obtain ⟨q, f, fd, ps, cls, prop, F, bind⟩ := c.ex
  constructor
  intro pins s σ H Q I h
  refine attr_of hab (thn (he.run pins s σ H _ I h) ?_)
  rintro u s1 ⟨x, H1, I1, rx, a, dx, fs, rfl, ea, prom⟩
  cases rx
  obtain ⟨mA, O, _⟩ := ins_get I1.hok ea
  obtain ⟨od, J, _⟩ := O.look
  obtain ⟨rest, rec_⟩ := prop.rec_
  have short : [Value.ref a].length = ps.length := (F.len _ _ _ _ prom).symm ▸ rfl
  have isCls : (PySem.W.clsIn X.K C).isSome = true := by
    obtain ⟨cd, e, _⟩ := PySem.W.any_some cls.hd
    rw [e]
    rfl
  refine PySem.W.get_bind I1.kIn J (PySem.W.plainGet_of (cls.get m)).1 (PySem.W.findObj_data isCls prop.at_ prop.get prop.tak) (PySem.W.plainGet_of (cls.get m)).2 (wpAny_call (PySem.W.prop_get (s := { s1 with toks := s1.toks + 1 }) I1.kIn rec_ ?_))
  have I2 := I1.tok (s1.toks + 1)
  refine codeAny_mono (F.run X.A.in1 X.stack _ H1 ⟨[.ref a], []⟩ [.ref a] [.ref a] Q E0 (hr.low hk).one I2.env0.in1 (by simpa using bind _ [.ref a] I2.kIn (by simpa using short)) (.cons rfl .nil) prom) ?_
  intro r s2 out
  cases r with
  | error er => exact (passL (X := X.nox) pins σ H1 _ er s2 (I2.wish _) out).elim
  | ok flow =>
    cases flow with
    | ret v =>
      obtain ⟨y, H2, I3, ry, qy⟩ := I2.after out
      have given := PySem.W.handedOut_of (handed_of ry)
      show wpAny _ _ (handedOut v) _ _ s2
      rw [given]
      exact wpAny_pure ⟨y, H2, I3, ry, qy⟩
    | next => exact out.elim
    | brk => exact out.elim
    | cont => exact out.elim
end
theorem Sep.news {M : List Addr} {H0 G0 G H H' : Hp} {O : List Addr} (S : Sep M H0 G0 G H O) (e : Same H H') (L : List Addr) (hL : ∀ a ∈ L, H a = none ∧ H' a ≠ none ∧ H0 a = none) : Sep M H0 G0 G H' (L ++ O) := by
  have S2 := S.same e
  refine ⟨S2.base, S2.pm, S2.sG, S2.g0, S2.gn, fun a ha => ?_⟩
  rcases List.mem_append.mp ha with h | h
  · obtain ⟨h1, h2, h3⟩ := hL a h
    exact ⟨S.gfree h1, h2, .inr h3⟩
  · exact S2.ow a h
theorem vv_chain {r r' : R2} {ta tb tc : TE} {σ : L2.St} {H : Hp} {x y z : V} {a b : Bool} (ha : Val ta σ H x) (hb : Val tb σ H y) (hc : Val tc σ H z) (h1 : ∀ Q : VK, Q (.bl a) H → r x y H Q) (h2 : ∀ Q : VK, Q (.bl b) H → r' y z H Q) :
    Val (tChain r r' ta tb tc) σ H (.bl (a && b)) := fun Q q => ha _ (hb _ (h1 _ ⟨a, rfl, by
  cases a with
  | true =>
    rw [if_pos rfl]
    exact hc _ (h2 _ q)
  | false =>
    rw [if_neg Bool.false_ne_true]
    exact q⟩))
/-! ### constants that are tuples, lists backwards, zip -/
theorem inV_ints (x : Int) : ∀ xs : List Int, inV (V.int x) (xs.map V.int) = decide (x ∈ xs)
  | [] => by simp [inV]
  | y :: r => by
    have h := inV_ints x r
    unfold inV at h ⊢
    rw [List.map_cons, List.any_cons, h]
    by_cases c : x = y
    · subst c
      simp [eqV]
    · simp [eqV, c, Ne.symm c]
theorem flat_ints : ∀ xs : List Int, (xs.map V.int).all flatV = true
  | [] => rfl
  | _ :: r => flat_ints r
def rInI (K : PySem.W.Frag) : R2 := fun x y H Q => ∃ (i : Int) (p : Addr) (xs : List Int), x = .int i ∧ y = .ref p ∧ (SqL K H p (xs.map V.int) ∨ SqT K H p (xs.map V.int)) ∧ Q (.bl (decide (i ∈ xs))) H
def rNotInI (K : PySem.W.Frag) : R2 := fun x y H Q => ∃ (i : Int) (p : Addr) (xs : List Int), x = .int i ∧ y = .ref p ∧ (SqL K H p (xs.map V.int) ∨ SqT K H p (xs.map V.int)) ∧ Q (.bl (!decide (i ∈ xs))) H
theorem op_inI {X : Cx} {K : PySem.W.Frag} (hK : X.K = K := by rfl) : OpR X (compareOp .In) (rInI K) := by
  subst hK
  intro pins s σ H x y v u Q I rx ry h
  obtain ⟨i, p, xs, rfl, rfl, hs, q⟩ := h
  refine op_in_seq pins s σ H _ _ v u Q I rx ry ⟨p, _, rfl, hs, rfl, flat_ints xs, ?_⟩
  rw [if_neg Bool.false_ne_true, inV_ints]
  exact q
theorem op_notInI {X : Cx} {K : PySem.W.Frag} (hK : X.K = K := by rfl) : OpR X (compareOp .NotIn) (rNotInI K) := by
  subst hK
  intro pins s σ H x y v u Q I rx ry h
  obtain ⟨i, p, xs, rfl, rfl, hs, q⟩ := h
  refine op_notIn_seq pins s σ H _ _ v u Q I rx ry ⟨p, _, rfl, hs, rfl, flat_ints xs, ?_⟩
  rw [if_pos rfl, inV_ints]
  exact q
theorem pe_revLK {X : Cx} {K : PySem.W.Frag} {e : Expr} {te : TE} {k : Nat} {p1 p2 p3 pos : Pos} (he : PE X e te) (hK : X.K = K := by rfl) : PE X (.Subscript e (.Slice none none (some (.UnaryOp .USub (.Constant (.int 1) k p1) p2)) p3) pos) (tRevL K te) := hK ▸ pe_revL he
theorem rev_map {α : Type} {f : α → V} {xs : List α} {H : Hp} {p : Addr} (h : H p = some (.lst (xs.map f).reverse)) : H p = some (.lst (xs.reverse.map f)) := by
  rw [List.map_reverse]
  exact h
theorem RpAll.rev {G : Hp} : ∀ {vs : List V} {ds : List PyData}, RpAll G vs ds → RpAll G vs.reverse ds.reverse
  | _, _, .nil => .nil
  | _, _, .cons h t => by
    rw [List.reverse_cons, List.reverse_cons]
    exact (RpAll.rev t).append (.one h)
theorem rev_all {α : Type} {f : α → PyData} {xs : List α} {G : Hp} {vs : List V} (a : RpAll G vs (xs.map f)) : RpAll G vs.reverse (xs.reverse.map f) := by
  rw [List.map_reverse]
  exact a.rev
theorem pi_zipK {X : Cx} {K : PySem.W.Frag} {e e2 : Expr} {ta : TA} {p pos tpos : Pos} {elts : List Expr} {kk : Nat} (hg : Gl X "zip") (hm : X.mg "zip" = none) (ha : PA X [e, e2] ta) (hK : X.K = K := by rfl)
    (hs : starEach [e, e2] X.env = (false, eval e X.env) :: starEach [e2] X.env := by rfl) (hpl : (backTo pos (starEach [e2] X.env)).any (·.1) = false := by rfl) :
    PI X (.Tuple elts kk tpos) (.Call (.Name "zip" p) [e, e2] [] pos) (RZ.iZipA K ta) := hK ▸ RZ.pi_zipA hg hm ha hs hpl
/-- a comprehension over zip of two lists of one length -/
theorem lc_zipL {K : PySem.W.Frag} {a b : Addr} {xs ys : List V} {g : TG} {tt : TT} {te : TE} {vs : List Nat} {σ : L2.St} {H1 : Hp} {D : Addr} {Qd : Hp → Prop} (hl : xs.length = ys.length) (Pv : Nat → Hp → Prop) (h0 : Pv 0 (upd H1 D (.lst []))) (hq : ∀ i H, i ≤ xs.length → Pv i H → SqL K H a xs ∧ SqL K H b ys)
    (hs : ∀ (i : Nat) (x y : V) (T : Addr) (H : Hp), xs[i]? = some x → ys[i]? = some y → H T = none → Pv i H → g (.ref T) (wipe σ vs) (upd H T (.tup [x, y])) fun σ2 H2 => wipe σ2 vs = wipe σ vs ∧ tt σ2 H2 fun b H3 =>
      if b = true then te σ2 H3 fun y H4 => ∃ acc, H4 D = some (.lst acc) ∧ acc.length < sizeLine ∧ Pv (i + 1) (upd H4 D (.lst (acc ++ [y]))) else Pv (i + 1) H3) (hd : ∀ H, Pv xs.length H → Qd H) :
    ∃ W : Nat → Nat → Hp → Prop, (∃ m, W 0 m (upd H1 D (.lst []))) ∧ ∀ i m H, W i m H →
      ((Itz K a b).stop i H ∧ Qd H) ∨ ((Itz K a b).go i H ∧ ∃ Nx : Hp → Prop, (∀ H', Nx H' → ∃ m', m' < m ∧ W (i + 1) m' H') ∧ ∀ x H', (Itz K a b).yld i H x H' → g x (wipe σ vs) H' fun σ2 H2 => wipe σ2 vs = wipe σ vs ∧ tt σ2 H2 fun b H3 =>
        if b = true then te σ2 H3 fun y H4 => ∃ acc, H4 D = some (.lst acc) ∧ acc.length < sizeLine ∧ Nx (upd H4 D (.lst (acc ++ [y]))) else Nx H3) := by
  refine ⟨fun i m H => m = xs.length - i ∧ i ≤ xs.length ∧ Pv i H, ⟨xs.length, by simp, Nat.zero_le _, h0⟩, ?_⟩
  rintro i m H ⟨rfl, hi, p⟩
  obtain ⟨qx, qy⟩ := hq i H hi p
  by_cases hlt : i < xs.length
  · have hlt2 : i < ys.length := by omega
    refine .inr ⟨⟨xs, ys, xs[i], ys[i], qx, qy, List.getElem?_eq_getElem hlt, List.getElem?_eq_getElem hlt2⟩, Pv (i + 1), fun H' p' => ⟨xs.length - (i + 1), by omega, rfl, hlt, p'⟩, fun v H' y => ?_⟩
    obtain ⟨T, x', y', rfl, hT, rfl, f1, f2⟩ := y
    exact hs i x' y' T H (f1 xs qx) (f2 ys qy) hT p
  · have e : i = xs.length := by omega
    subst e
    exact .inl ⟨⟨xs, ys, qx, qy, Or.inl (Nat.le_refl _)⟩, hd H p⟩
theorem zip_get {α β : Type} {xs : List α} {ys : List β} {i : Nat} {x : α} {y : β} (h1 : xs[i]? = some x) (h2 : ys[i]? = some y) : (xs.zip ys)[i]? = some (x, y) := by
  rw [List.getElem?_zip_eq_some]
  exact ⟨h1, h2⟩
theorem zip_len {α β : Type} {xs : List α} {ys : List β} {n : Nat} (h : xs.length = ys.length) (e : n = xs.length) : n = (xs.zip ys).length := by
  rw [List.length_zip, ← h, Nat.min_self]
  exact e
theorem zlen {α β : Type} {vs ws : List V} {xs : List α} {ys : List β} (a : vs.length = xs.length) (b : ws.length = ys.length) (h : xs.length = ys.length) : vs.length = ws.length := by rw [a, b, h]
section
variable {t : TT} {ta tb : TE} {σ : L2.St} {H : Hp}
theorem vv_ifP {p : Prop} [Decidable p] {a b : Int} (ht : Ans t σ H (decide p)) (hx : p → Val ta σ H (.int a)) (hy : ¬ p → Val tb σ H (.int b)) : Val (tIf t ta tb) σ H (.int (if p then a else b)) := by
  by_cases h : p
  · have := vv_if (p := p) (a := a) (b := a) ht (hx h) (tb := ta) (hx h)
    intro Q q
    refine ht _ ?_
    rw [decide_eq_true h, if_pos rfl]
    rw [if_pos h] at q
    exact hx h _ q
  · intro Q q
    refine ht _ ?_
    rw [decide_eq_false h, if_neg Bool.false_ne_true]
    rw [if_neg h] at q
    exact hy h _ q
theorem vv_ifQ {c : Bool} {a b : Int} (ht : Ans t σ H c) (hx : c = true → Val ta σ H (.int a)) (hy : c = false → Val tb σ H (.int b)) : Val (tIf t ta tb) σ H (.int (if c = true then a else b)) := by
  intro Q q
  refine ht _ ?_
  cases c with
  | true =>
    rw [if_pos rfl]
    rw [if_pos rfl] at q
    exact hx rfl _ q
  | false =>
    rw [if_neg Bool.false_ne_true]
    rw [if_neg Bool.false_ne_true] at q
    exact hy rfl _ q
end
theorem kit_mk0 {K : PySem.W.Frag} {S C : Addr} (h1 : (Value.ref S == Value.ref C) = false) (h2 : PySem.W.isClsIn K C = true) (h3 : PySem.W.typeIn K (.ref C) = some (.type "type")) (h4 : PySem.W.subIn K (.ref S) (.ref C) = some false) :
    PySem.W.kitOne K (.ref S) (.ref C) = some false := by
  unfold PySem.W.isClsIn at h2
  unfold PySem.W.kitOne
  rw [if_neg (by rw [h1]; exact Bool.false_ne_true)]
  unfold PySem.W.kitCls
  simp only [h2, h3, h4, beq_self_eq_true, Bool.and_self, if_true]
theorem vv_call2 {ta tb : TE} {σ : L2.St} {H : Hp} {x y z : V} {r : List V → Hp → VK → Prop} (ha : Val ta σ H x) (hb : Val tb σ H y) (hr : ∀ Q : VK, Q z H → r [x, y] H Q) : Val (tCB r (tCons ta (tCons tb tNil))) σ H z := fun Q q => ha _ (hb _ (hr Q q))
/-! ### lists of data that the caller owns; values that are a truth value or a number -/
theorem Sep.stepnew {M : List Addr} {H0 G0 G H H' : Hp} {O : List Addr} {p : Addr} {o : HO} (S : Sep M H0 G0 G H O) {G' : Hp} (e : Same H H') (eG : Same G G') (sG : Same G' H') (hn : ∀ b, H b ≠ none → G b = none → G' b = none) (_n : H p = none) (h : H' p = some o) (g : G' p = none) (hm : H0 p = none) : Sep M H0 G0 G' H' (p :: O) := by
  have S2 := S.step e eG sG hn
  refine ⟨S2.base, S2.pm, S2.sG, S2.g0, S2.gn, fun a ha => ?_⟩
  rcases List.mem_cons.mp ha with rfl | ha
  · exact ⟨g, (fun z => by rw [z] at h; cases h), .inr hm⟩
  · exact S2.ow a ha
inductive Bi where
  | b (x : Bool)
  | n (i : Int)
deriving DecidableEq
def biV : Bi → V
  | .b x => .bl x
  | .n i => .int i
def Bi.el {α : Type} (v : Bi) (f : Bool → α) (g : Int → α) : α :=
  match v with
  | .b x => f x
  | .n i => g i
theorem cW_elb {α : Type} {x : Bool} {f : Bool → Rx α} {g : Int → Rx α} {K : α → Prop} {E : Nat → Prop} (h : cW (Bi.el (.b x) f g) K E) : cW (f x) K E := h
theorem cW_eln {α : Type} {x : Int} {f : Bool → Rx α} {g : Int → Rx α} {K : α → Prop} {E : Nat → Prop} (h : cW (Bi.el (.n x) f g) K E) : cW (g x) K E := h
theorem rp_tup4 {α β γ δ : Type} {f : α → PyData} {g : β → PyData} {h : γ → PyData} {i : δ → PyData} {H : Hp} {v : V} {x : α × β × γ × δ} (r : Rp H v (encT4 f g h i x)) : ∃ a v1 v2 v3 v4, v = .ref a ∧ H a = some (.tup [v1, v2, v3, v4]) ∧ Rp H v1 (f x.1) ∧ Rp H v2 (g x.2.1) ∧ Rp H v3 (h x.2.2.1) ∧ Rp H v4 (i x.2.2.2) := by
  unfold encT4 at r
  cases r with
  | tup h1 h2 =>
    cases h2 with
    | cons a b =>
      cases b with
      | cons b c =>
        cases c with
        | cons c d =>
          cases d with
          | cons d e =>
            cases e
            exact ⟨_, _, _, _, _, rfl, h1, a, b, c, d⟩
theorem rp_mk4 {α β γ δ : Type} {f : α → PyData} {g : β → PyData} {h : γ → PyData} {i : δ → PyData} {H : Hp} {a : Addr} {v1 v2 v3 v4 : V} {x : α} {y : β} {z : γ} {w : δ} (h1 : H a = some (.tup [v1, v2, v3, v4])) (r1 : Rp H v1 (f x)) (r2 : Rp H v2 (g y)) (r3 : Rp H v3 (h z)) (r4 : Rp H v4 (i w)) : Rp H (.ref a) (encT4 f g h i (x, y, z, w)) := .tup h1 (.cons r1 (.cons r2 (.cons r3 (.cons r4 .nil))))
theorem Sep.b0M {M : List Addr} {H0 G0 G H : Hp} {O : List Addr} (S : Sep M H0 G0 G H O) (h : ∀ a ∈ M, H a = H0 a) : Same H0 H := fun b o e => by
  by_cases z : b ∈ M
  · rw [h b z]
    exact e
  · exact S.base b o e z
section
variable {X : Cx} {k j n : Nat} {f C : Addr} {fd : FuncData} {ps ks : List Str} {g : List V → List V → List V} {sp : Sp} {x m : Str} {pos p apos : Pos} {e o : Expr} {es : List Expr} {kws : List Keyword} {ta : TE} {t tk : TA} {W : WX}
/-- keywords alone -/
theorem vx_makeXK {pats : List Pat} (c : MakX X.prog X.w X.K X.mg X.base k x C sp pats) (pt : Pat) (hpt : pt ∈ pats) (hr : RoomG j X.A) (hk : k + 1 ≤ j) (tkW : Takes X W) (hg : Gl X x) (hkw : PK X kws tk)
    (hall : (backToKw pos (keywordEach kws X.env)).all (·.1.isSome) = true := by rfl) (hks : (backToKw pos (keywordEach kws X.env)).filterMap (·.1) = pt.2.1 := by rfl) (hdb : (x == ("__debug__" : Str)) = false := by decide)
    (hpl : ((backTo pos (starEach [] X.env)).any (·.1) || (backToKw pos (keywordEach kws X.env)).any (·.1.isNone)) = false := by rfl) :
    PE X (.Call (.Name x p) [] kws pos) (tMakeX C pt.1 pt.2.1.length sp pt.2.2 W tNil tk) := by
  obtain ⟨f, fd, ps, M, F, hm, b⟩ := c.ex
  refine ⟨fun pins s σ H Q I h => ?_⟩
  refine wpAny_Call_Name_kw (ld_glob I hg hm ?_ hdb)
  refine PySem.W.callWith_KW0 (h₀ := X.base) I.ok.mod.kin M.kp hall ?_ hpl
  refine thn (hkw.run pos pins s σ H _ I h) fun ws s2 ⟨zs, H2, I2, rz, l1, l2, q2⟩ => ⟨I2.kIn, ?_⟩
  rw [hks]
  exact run_mkX (us := []) (vs := []) M F (hr.low hk) (b pt hpt) tkW I2 .nil rz l1 l2 q2
theorem vx_callXK {pats : List Pat} (c : CalX X.prog X.w X.K X.mg X.base k x sp pats) (pt : Pat) (hpt : pt ∈ pats) (hr : RoomG j X.A) (hk : k ≤ j) (tkW : Takes X W) (hg : Gl X x) (hkw : PK X kws tk)
    (hall : (backToKw pos (keywordEach kws X.env)).all (·.1.isSome) = true := by rfl) (hks : (backToKw pos (keywordEach kws X.env)).filterMap (·.1) = pt.2.1 := by rfl) (hdb : (x == ("__debug__" : Str)) = false := by decide)
    (hpl : ((backTo pos (starEach [] X.env)).any (·.1) || (backToKw pos (keywordEach kws X.env)).any (·.1.isNone)) = false := by rfl) :
    PE X (.Call (.Name x p) [] kws pos) (tCallX pt.1 pt.2.1.length sp pt.2.2 W tNil tk) := by
  obtain ⟨f, fd, ps, F, hm, kp, b⟩ := c.ex
  refine ⟨fun pins s σ H Q I h => ?_⟩
  refine wpAny_Call_Name_kw (ld_glob I hg hm ?_ hdb)
  refine PySem.W.callWith_KW0 (h₀ := X.base) I.ok.mod.kin kp hall ?_ hpl
  refine thn (hkw.run pos pins s σ H _ I h) fun ws s2 ⟨zs, H2, I2, rz, l1, l2, q2⟩ => ⟨I2.kIn, ?_⟩
  rw [hks]
  exact run_X (us := []) (vs := []) F (hr.low hk) (b pt hpt) tkW I2 .nil rz l1 l2 q2
theorem vx_methXK {pats : List Pat} {pl : Sem Bool} (c : MetX X.prog X.w X.K X.mg X.base k C m sp pats) (pt : Pat) (hpt : pt ∈ pats) (hr : RoomG j X.A) (hk : k ≤ j) (tkW : Takes X W) (he : PE X o ta) (hkw : PK X kws tk)
    (hall : (backToKw pos (keywordEach kws X.env)).all (·.1.isSome) = true := by rfl) (hks : (backToKw pos (keywordEach kws X.env)).filterMap (·.1) = pt.2.1 := by rfl)
    (hpl : ((backTo pos (starEach [] X.env)).any (·.1) || (backToKw pos (keywordEach kws X.env)).any (·.1.isNone)) = false := by rfl)
    (ht : eval (.Call (.Attribute o m apos) [] kws pos) X.env = (do
      let ov ← eval o X.env
      standAt apos.atName
      let (f, first) ← holding [ov] (getMethod ov m pl)
      callWith pos f first (backTo pos (starEach [] X.env)) (backToKw pos (keywordEach kws X.env))) := by rfl) :
    PE X (.Call (.Attribute o m apos) [] kws pos) (tMethX C m pt.1 pt.2.1.length sp pt.2.2 W ta tNil tk) := by
  obtain ⟨f, fd, ps, hc, hm, F, b⟩ := c.ex
  refine ⟨fun pins s σ H Q I h => ?_⟩
  refine PySem.W.methodCall_KW (pl := pl) (thn (he.run pins s σ H _ I h) fun u s1 ⟨x, H1, I1, rx, a, dx, fs, ex, ea, l, q⟩ => ?_) ht
  subst ex
  obtain rfl : u = Value.ref a := rx
  refine getmeth_ok I1 ea hc hm l ?_
  refine PySem.W.callWith_KW0 (first := [.ref a]) (h₀ := X.base) I.ok.mod.kin hm.kp hall ?_ hpl
  refine thn (hkw.run pos pins s1 σ H1 _ I1 q) fun ws s3 ⟨zs, H3, I3, rz, l1, l2, q3⟩ => ⟨I3.kIn, ?_⟩
  rw [hks]
  exact run_X (us := [.ref a]) (vs := [.ref a]) F (hr.low hk) (b pt hpt) tkW I3 (.cons rfl .nil) rz l1 l2 q3
end
end Vx
/-! # lists within lists that are owned as a whole -/
namespace Vx
open PySem PySem.Spec PyProof.Rows L2
inductive Kd where
  | lst
  | tup
  | ins (C dx : Addr) (ns : List Str)
def Kd.ho : Kd → List V → HO
  | .lst, vs => .lst vs
  | .tup, vs => .tup vs
  | .ins C dx ns, vs => .ins C dx (ns.zip vs)
/-- what stands in the heap as a tree: values as they are, data that stay, nodes of its own -/
inductive Dt where
  | val (v : V)
  | frz (d : PyData)
  | nod (k : Kd) (xs : List Dt)
mutual
inductive Ow (G H : Hp) : List Addr → V → Dt → Prop
  | val (v : V) : Ow G H [] v (.val v)
  | frz {v : V} {d : PyData} : Rp G v d → Ow G H [] v (.frz d)
  | nod {a : Addr} {k : Kd} {vs : List V} {ds : List Dt} {L : List Addr} : H a = some (k.ho vs) → OwAll G H L vs ds → a ∉ L → Ow G H (a :: L) (.ref a) (.nod k ds)
inductive OwAll (G H : Hp) : List Addr → List V → List Dt → Prop
  | nil : OwAll G H [] [] []
  | cons {L1 L2 : List Addr} {v : V} {vs : List V} {d : Dt} {ds : List Dt} : Ow G H L1 v d → OwAll G H L2 vs ds → (∀ b ∈ L1, b ∉ L2) → OwAll G H (L1 ++ L2) (v :: vs) (d :: ds)
end
def Keeps (L : List Addr) (H H' : Hp) : Prop := ∀ b ∈ L, ∀ o, H b = some o → H' b = some o
mutual
theorem Ow.mono {G G' H H' : Hp} (e : Same G G') : ∀ {L : List Addr} {v : V} {d : Dt}, Keeps L H H' → Ow G H L v d → Ow G' H' L v d
  | _, _, _, _, .val v => .val v
  | _, _, _, _, .frz r => .frz (r.mono e)
  | _, _, _, k, .nod h r n => .nod (k _ List.mem_cons_self _ h) (OwAll.mono e (fun b hb => k b (List.mem_cons_of_mem _ hb)) r) n
theorem OwAll.mono {G G' H H' : Hp} (e : Same G G') : ∀ {L : List Addr} {vs : List V} {ds : List Dt}, Keeps L H H' → OwAll G H L vs ds → OwAll G' H' L vs ds
  | _, _, _, _, .nil => .nil
  | _, _, _, k, .cons a r d => .cons (Ow.mono e (fun b hb => k b (List.mem_append_left _ hb)) a) (OwAll.mono e (fun b hb => k b (List.mem_append_right _ hb)) r) d
end
mutual
theorem Ow.there {G H : Hp} : ∀ {L : List Addr} {v : V} {d : Dt}, Ow G H L v d → ∀ b ∈ L, H b ≠ none
  | _, _, _, .val _, _, hb => nomatch hb
  | _, _, _, .frz _, _, hb => nomatch hb
  | _, _, _, .nod h r n, b, hb => by
    rcases List.mem_cons.mp hb with rfl | hb
    · exact some_ne h
    · exact OwAll.there r b hb
theorem OwAll.there {G H : Hp} : ∀ {L : List Addr} {vs : List V} {ds : List Dt}, OwAll G H L vs ds → ∀ b ∈ L, H b ≠ none
  | _, _, _, .nil, _, hb => nomatch hb
  | _, _, _, .cons a r d, b, hb => by
    rcases List.mem_append.mp hb with hb | hb
    · exact Ow.there a b hb
    · exact OwAll.there r b hb
end
theorem OwAll.len {G H : Hp} : ∀ {L : List Addr} {vs : List V} {ds : List Dt}, OwAll G H L vs ds → vs.length = ds.length
  | _, _, _, .nil => rfl
  | _, _, _, .cons _ r _ => congrArg Nat.succ r.len
theorem OwAll.snoc {G H : Hp} {L1 : List Addr} {v : V} {d : Dt} (h : Ow G H L1 v d) : ∀ {L : List Addr} {vs : List V} {ds : List Dt}, OwAll G H L vs ds → (∀ b ∈ L, b ∉ L1) → OwAll G H (L ++ L1) (vs ++ [v]) (ds ++ [d])
  | _, _, _, .nil, _ => by
    have z : OwAll G H (L1 ++ []) [v] [d] := .cons h .nil (fun _ _ z => nomatch z)
    rw [List.append_nil] at z
    exact z
  | _, _, _, .cons (L1 := La) (L2 := Lb) a r n, k => by
    have z := OwAll.cons a (OwAll.snoc h r fun b hb => k b (List.mem_append_right _ hb)) (fun b hb q => by
      rcases List.mem_append.mp q with q | q
      · exact n b hb q
      · exact k b (List.mem_append_left _ hb) q)
    rw [← List.append_assoc] at z
    exact z
theorem OwAll.app {G H : Hp} {L2 : List Addr} {ws : List V} {es : List Dt} (h : OwAll G H L2 ws es) : ∀ {L : List Addr} {vs : List V} {ds : List Dt}, OwAll G H L vs ds → (∀ b ∈ L, b ∉ L2) → OwAll G H (L ++ L2) (vs ++ ws) (ds ++ es)
  | _, _, _, .nil, _ => h
  | _, _, _, .cons (L1 := La) (L2 := Lb) a r n, k => by
    have z := OwAll.cons a (OwAll.app h r fun b hb => k b (List.mem_append_right _ hb)) (fun b hb q => by
      rcases List.mem_append.mp q with q | q
      · exact n b hb q
      · exact k b (List.mem_append_left _ hb) q)
    rw [← List.append_assoc] at z
    exact z
/-! ### trees that are data -/
mutual
inductive Dd : Dt → PyData → Prop
  | non : Dd (.val .non) .none
  | bl (b : Bool) : Dd (.val (.bl b)) (.bool b)
  | int (i : Int) : Dd (.val (.int i)) (.int i)
  | str (x : Str) : Dd (.val (.str x)) (.str x)
  | frz (d : PyData) : Dd (.frz d) d
  | lst {xs : List Dt} {ds : List PyData} : DdAll xs ds → Dd (.nod .lst xs) (.list ds)
  | tup {xs : List Dt} {ds : List PyData} : DdAll xs ds → Dd (.nod .tup xs) (.tuple ds)
inductive DdAll : List Dt → List PyData → Prop
  | nil : DdAll [] []
  | cons {x : Dt} {xs : List Dt} {d : PyData} {ds : List PyData} : Dd x d → DdAll xs ds → DdAll (x :: xs) (d :: ds)
end
mutual
/-- read in any heap that holds its nodes -/
theorem Ow.rp {G H I : Hp} (e : Same G I) : ∀ {L : List Addr} {v : V} {d : Dt} {p : PyData}, Keeps L H I → Ow G H L v d → Dd d p → Rp I v p
  | _, _, _, _, _, .val _, .non => .non
  | _, _, _, _, _, .val _, .bl b => .bl b
  | _, _, _, _, _, .val _, .int i => .int i
  | _, _, _, _, _, .val _, .str x => .str x
  | _, _, _, _, _, .frz r, .frz _ => r.mono e
  | _, _, _, _, k, .nod h r _, .lst q => .lst (k _ List.mem_cons_self _ h) (OwAll.rp e (fun b hb => k b (List.mem_cons_of_mem _ hb)) r q)
  | _, _, _, _, k, .nod h r _, .tup q => .tup (k _ List.mem_cons_self _ h) (OwAll.rp e (fun b hb => k b (List.mem_cons_of_mem _ hb)) r q)
theorem OwAll.rp {G H I : Hp} (e : Same G I) : ∀ {L : List Addr} {vs : List V} {ds : List Dt} {ps : List PyData}, Keeps L H I → OwAll G H L vs ds → DdAll ds ps → RpAll I vs ps
  | _, _, _, _, _, .nil, .nil => .nil
  | _, _, _, _, k, .cons a r _, .cons x xs => .cons (Ow.rp e (fun b hb => k b (List.mem_append_left _ hb)) a x) (OwAll.rp e (fun b hb => k b (List.mem_append_right _ hb)) r xs)
end
def oI (i : Int) : Dt := .val (.int i)
def oB (b : Bool) : Dt := .val (.bl b)
def oF {α : Type} (f : α → PyData) (x : α) : Dt := .frz (f x)
def oL {α : Type} (f : α → Dt) (xs : List α) : Dt := .nod .lst (xs.map f)
def EncO {α : Type} (f : α → Dt) (g : α → PyData) : Prop := ∀ x, Dd (f x) (g x)
theorem encO_I : EncO oI PyData.int := fun i => .int i
theorem encO_B : EncO oB PyData.bool := fun i => .bl i
theorem encO_F {α : Type} {f : α → PyData} : EncO (oF f) f := fun _ => .frz _
theorem EncO.all {α : Type} {f : α → Dt} {g : α → PyData} (h : EncO f g) : ∀ xs : List α, DdAll (xs.map f) (xs.map g)
  | [] => .nil
  | x :: xs => .cons (h x) (EncO.all h xs)
theorem encO_L {α : Type} {f : α → Dt} {g : α → PyData} (h : EncO f g) : EncO (oL f) (encL g) := fun xs => .lst (h.all xs)
theorem keeps_same {L : List Addr} {H H' : Hp} (e : Same H H') : Keeps L H H' := fun b _ o q => e b o q
theorem keeps_refl {L : List Addr} {H : Hp} : Keeps L H H := fun _ _ _ q => q
theorem keeps_mut {L : List Addr} {H H' : Hp} {m : Addr} (x : SameX m H H') (n : ∀ b ∈ L, b ≠ m) : Keeps L H H' := fun b hb o q => x b o q (n b hb)
theorem keeps_muts {L M : List Addr} {H H' : Hp} (x : SameXs M H H') (n : ∀ b ∈ L, b ∉ M) : Keeps L H H' := fun b hb o q => x b o q (n b hb)
theorem keeps_hide {L M : List Addr} {H : Hp} (n : ∀ b ∈ L, b ∉ M) : Keeps L H (hideL M H) := fun b hb o q => by
  rw [hideL_out (n b hb)]
  exact q
section
variable {α : Type} {f : α → Dt} {g : α → PyData} {G H I : Hp} {L : List Addr} {vs : List V} {xs : List α}
theorem OwAll.rpA (w : OwAll G H L vs (xs.map f)) (h : EncO f g) (e : Same G H) : RpAll H vs (xs.map g) := OwAll.rp e keeps_refl w (h.all xs)
theorem OwAll.rpH (w : OwAll G H L vs (xs.map f)) (h : EncO f g) (e : Same G I) (k : Keeps L H I) : RpAll I vs (xs.map g) := OwAll.rp e k w (h.all xs)
theorem OwAll.lenM (w : OwAll G H L vs (xs.map f)) : vs.length = xs.length := by rw [w.len, List.length_map]
theorem OwAll.snocM {L1 : List Addr} {v : V} {y : α} (w : OwAll G H L vs (xs.map f)) (h : Ow G H L1 v (f y)) (n : ∀ b ∈ L, b ∉ L1) : OwAll G H (L ++ L1) (vs ++ [v]) ((xs ++ [y]).map f) := by
  rw [List.map_append]
  exact OwAll.snoc h w n
theorem Ow.ints {a : Addr} {ys : List Int} (h : H a = some (.lst (ys.map V.int))) : Ow G H [a] (.ref a) (oL oI ys) := by
  have z : ∀ ys : List Int, OwAll G H [] (ys.map V.int) (ys.map oI) := fun ys => by
    induction ys with
    | nil => exact .nil
    | cons y r ih => exact .cons (L1 := []) (L2 := []) (.val _) ih (fun _ z => nomatch z)
  exact .nod (k := .lst) h (z ys) (fun z => nomatch z)
theorem Ow.list {a : Addr} {xs : List α} {L : List Addr} {vs : List V} (h : H a = some (.lst vs)) (w : OwAll G H L vs (xs.map f)) (n : ∀ b ∈ L, b ≠ a) : Ow G H (a :: L) (.ref a) (oL f xs) := .nod (k := .lst) h w (fun z => n a z rfl)
theorem Ow.toList {v : V} {L : List Addr} {xs : List α} (w : Ow G H L v (oL f xs)) : ∃ a vs L', v = .ref a ∧ L = a :: L' ∧ H a = some (.lst vs) ∧ OwAll G H L' vs (xs.map f) ∧ ∀ b ∈ L', b ≠ a := by
  unfold oL at w
  cases w with
  | nod h r n => exact ⟨_, _, _, rfl, rfl, h, r, fun b hb z => n (z ▸ hb)⟩
theorem OwAll.toInts : ∀ {L : List Addr} {vs : List V} {xs : List Int}, OwAll G H L vs (xs.map oI) → L = [] ∧ vs = xs.map V.int
  | _, _, [], .nil => ⟨rfl, rfl⟩
  | _, _, x :: xs, .cons a r _ => by
    obtain ⟨h1, h2⟩ := OwAll.toInts r
    cases a
    exact ⟨by rw [h1] <;> rfl, by rw [h2] <;> rfl⟩
theorem Ow.toInts {v : V} {L : List Addr} {xs : List Int} (w : Ow G H L v (oL oI xs)) : ∃ a, v = .ref a ∧ L = [a] ∧ H a = some (.lst (xs.map V.int)) := by
  obtain ⟨a, vs, L', rfl, rfl, h, r, _⟩ := w.toList
  obtain ⟨rfl, rfl⟩ := r.toInts
  exact ⟨a, rfl, rfl, h⟩
/-- the part at a place, and how a change of it alone changes the whole -/
theorem OwAll.part : ∀ {L : List Addr} {vs : List V} {ds : List Dt} {i : Nat} {d : Dt}, OwAll G H L vs ds → ds[i]? = some d → ∃ v L1, vs[i]? = some v ∧ Ow G H L1 v d ∧ (∀ b ∈ L1, b ∈ L) ∧
    ∀ H' d', (∀ b ∈ L, b ∉ L1 → ∀ o, H b = some o → H' b = some o) → Ow G H' L1 v d' → OwAll G H' L vs (ds.set i d')
  | _, _, _, _, _, .nil, h => by simp at h
  | _, _, _, 0, _, .cons (L1 := La) (L2 := Lb) a r n, h => by
    simp at h
    subst h
    refine ⟨_, La, rfl, a, fun b hb => List.mem_append_left _ hb, fun H' d' k w => ?_⟩
    exact .cons w (OwAll.mono (Same.refl G) (fun b hb => k b (List.mem_append_right _ hb) fun z => n b z hb) r) n
  | _, _, _, i + 1, _, .cons (L1 := La) (L2 := Lb) a r n, h => by
    obtain ⟨v, L1, h1, h2, h3, h4⟩ := OwAll.part (i := i) r (by simpa using h)
    refine ⟨v, L1, by simpa using h1, h2, fun b hb => List.mem_append_right _ (h3 b hb), fun H' d' k w => ?_⟩
    refine .cons (Ow.mono (Same.refl G) (fun b hb => k b (List.mem_append_left _ hb) fun z => n b hb (h3 b z)) a) (h4 H' d' (fun b hb nb => k b (List.mem_append_right _ hb) nb) w) n
theorem OwAll.partM [Inhabited α] {k : Int} (w : OwAll G H L vs (xs.map f)) (h : -(xs.length : Int) ≤ k ∧ k < xs.length) : ∃ v L1, atI vs k = some v ∧ Ow G H L1 v (f (itD xs k)) ∧ (∀ b ∈ L1, b ∈ L) ∧
    ∀ H' y, (∀ b ∈ L, b ∉ L1 → ∀ o, H b = some o → H' b = some o) → Ow G H' L1 v (f y) → OwAll G H' L vs ((setL xs k y).map f) := by
  obtain ⟨j, e, hj⟩ := ixN_some h
  have hx := List.getElem?_eq_getElem hj
  obtain ⟨v, L1, h1, h2, h3, h4⟩ := OwAll.part (i := j) (d := f xs[j]) w (by rw [List.getElem?_map, hx] <;> rfl)
  have ei : itD xs k = xs[j] := by
    unfold itD atI
    rw [e]
    show (xs[j]?).getD default = _
    rw [hx] <;> rfl
  refine ⟨v, L1, ?_, by rw [ei]; exact h2, h3, fun H' y q w2 => ?_⟩
  · unfold atI
    rw [w.lenM, e]
    exact h1
  · have z := h4 H' (f y) q w2
    unfold setL
    rw [e, List.map_set]
    exact z
/-- the item of a turn -/
theorem OwAll.turn {i : Nat} {v : V} (w : OwAll G H L vs (xs.map f)) (h : vs[i]? = some v) : ∃ x L1, xs[i]? = some x ∧ Ow G H L1 v (f x) ∧ ∀ b ∈ L1, b ∈ L := by
  have hl := get_len h
  have e := w.lenM
  have hx := List.getElem?_eq_getElem (show i < xs.length by omega)
  obtain ⟨v2, L1, h1, h2, h3, _⟩ := OwAll.part (i := i) (d := f xs[i]) w (by rw [List.getElem?_map, hx] <;> rfl)
  rw [h] at h1
  cases h1
  exact ⟨_, L1, hx, h2, h3⟩
end
/-! ### what is owned, in pieces -/
theorem all_app {P : Addr → Prop} {L l : List Addr} (h : ∀ x ∈ L, P x) (t : ∀ x ∈ l, P x) : ∀ x ∈ L ++ l, P x := fun x hx => by
  rcases List.mem_append.mp hx with q | q
  · exact h x q
  · exact t x q
theorem nm_nil {a : Addr} : a ∉ ([] : List Addr) := fun z => nomatch z
theorem nm_cons {a m : Addr} {l : List Addr} (h : a ≠ m) (t : a ∉ l) : a ∉ m :: l := fun z => by
  rcases List.mem_cons.mp z with q | q
  · exact h q
  · exact t q
theorem nm_app {a : Addr} {L l : List Addr} (h : a ∉ L) (t : a ∉ l) : a ∉ L ++ l := fun z => by
  rcases List.mem_append.mp z with q | q
  · exact h q
  · exact t q
theorem there_ne {H : Hp} {L : List Addr} {x : Addr} (t : ∀ b ∈ L, H b ≠ none) (n : H x = none) : ∀ b ∈ L, b ≠ x := fun b hb z => t b hb (z ▸ n)
theorem new_ne {H : Hp} {L : List Addr} {x : Addr} {o : HO} (n : ∀ b ∈ L, H b = none) (h : H x = some o) : ∀ b ∈ L, b ≠ x := fun b hb z => by
  have := n b hb
  rw [z, h] at this
  cases this
theorem new_nl {H : Hp} {L L2 : List Addr} (n : ∀ b ∈ L, H b = none) (t : ∀ b ∈ L2, H b ≠ none) : ∀ b ∈ L, b ∉ L2 := fun b hb z => t b z (n b hb)
theorem nl_symm {L L2 : List Addr} (h : ∀ b ∈ L, b ∉ L2) : ∀ b ∈ L2, b ∉ L := fun b hb z => h b z hb
theorem none_of_same {H H' : Hp} {x : Addr} (e : Same H H') (n : H' x = none) : H x = none := by
  cases q : H x with
  | none => rfl
  | some o =>
    rw [e x o q] at n
    cases n
section
variable {M : List Addr} {H0 G0 G H H' : Hp} {O L : List Addr} {p m : Addr} {o : HO}
theorem Sep.h0 (S : Sep M H0 G0 G H O) {b : Addr} (hb : b ∈ O) (hM : b ∉ M) : H0 b = none := (S.ow b hb).2.2.elim (fun z => (hM z).elim) id
theorem g_nl {a : Addr} {o : HO} (h : G a = some o) (S : Sep M H0 G0 G H O) (hL : ∀ b ∈ L, b ∈ O) : ∀ b ∈ L, b ≠ a := fun b hb => (g_ne h S (hL b hb)).symm
theorem b_nl {a : Addr} {o : HO} (h : (hideL M H0) a = some o) (S : Sep M H0 G0 G H O) (hL : ∀ b ∈ L, b ∈ O) : ∀ b ∈ L, b ≠ a := fun b hb => (b_ne h S (hL b hb)).symm
/-- a whole tree that is to stay as it is -/
theorem Sep.freezeL (S : Sep M H0 G0 G H O) {O' : List Addr} (hL : ∀ b ∈ L, b ∈ O) (h0 : ∀ b ∈ L, H0 b = none) (hO : ∀ b ∈ O', b ∈ O ∧ b ∉ L) : ∃ G', Same G G' ∧ Keeps L H G' ∧ Sep M H0 G0 G' H O' := by
  have gn : ∀ b ∈ L, G b = none := fun b hb => (S.ow b (hL b hb)).1
  refine ⟨fun b => if b ∈ L then H b else G b, fun b u q => ?_, fun b hb u q => ?_, S.base, S.pm, fun b u q => ?_, fun b u q => ?_, fun b hb gb => ?_, fun a ha => ?_⟩
  · have n : b ∉ L := fun z => by
      rw [gn b z] at q
      cases q
    show (if b ∈ L then H b else G b) = _
    rw [if_neg n]
    exact q
  · show (if b ∈ L then H b else G b) = _
    rw [if_pos hb]
    exact q
  · by_cases z : b ∈ L
    · exact (if_pos z).symm.trans q
    · exact S.sG b u ((if_neg z).symm.trans q)
  · have z : b ∉ L := fun z => by
      have := S.g0 b u q
      rw [gn b z] at this
      cases this
    show (if b ∈ L then H b else G b) = _
    rw [if_neg z]
    exact S.g0 b u q
  · have z : b ∉ L := fun z => hb (h0 b z)
    show (if b ∈ L then H b else G b) = _
    rw [if_neg z]
    exact S.gn b hb gb
  · obtain ⟨h1, h2⟩ := hO a ha
    refine ⟨?_, (S.ow a h1).2⟩
    show (if a ∈ L then H a else G a) = _
    rw [if_neg h2]
    exact (S.ow a h1).1
/-- a callee hands over a list of lists of its own making -/
theorem Sep.steptree (S : Sep M H0 G0 G H O) {G' : Hp} (e : Same H H') (eG : Same G G') (sG : Same G' H') (hn : ∀ b, H b ≠ none → G b = none → G' b = none) (L : List Addr) (hL : ∀ b ∈ L, H b = none ∧ G' b = none ∧ H' b ≠ none) : Sep M H0 G0 G' H' (L ++ O) := by
  have S2 := S.step e eG sG hn
  refine ⟨S2.base, S2.pm, S2.sG, S2.g0, S2.gn, all_app (fun b hb => ⟨(hL b hb).2.1, (hL b hb).2.2, .inr (S.free (hL b hb).1)⟩) S2.ow⟩
end
theorem Rp.list_of {α : Type} {g : α → PyData} {H : Hp} {a : Addr} {vs : List V} {xs : List α} (h : H a = some (.lst vs)) (r : RpAll H vs (xs.map g)) : Rp H (.ref a) (encL g xs) := .lst h r
/-! ### repr of data -/
mutual
def nodes : PyData → Nat
  | .list xs => 1 + nodesAll xs
  | .tuple xs => 1 + nodesAll xs
  | _ => 1
def nodesAll : List PyData → Nat
  | [] => 0
  | x :: xs => nodes x + nodesAll xs
end
mutual
def smallD : PyData → Bool
  | .none => true
  | .bool _ => true
  | .int i => decide (i.natAbs < 10 ^ 19)
  | .str x => decide ((reprText x).length ≤ 20)
  | .list xs => smallAll xs
  | .tuple xs => smallAll xs
  | _ => false
def smallAll : List PyData → Bool
  | [] => true
  | x :: xs => smallD x && smallAll xs
end
theorem piled_list (ts : List Str) : (listText ts).length ≤ piled ts + 2 := by
  cases ts with
  | nil => exact Nat.le_refl 2
  | cons t r =>
    have e : (listText (t :: r)).length = (textFrom 1 ("[" ++ ("" : String) ++ t) r).length + 1 := by
      show (textFrom 0 "[" (t :: r) ++ "]").length = _
      rw [strLen_append]
      rfl
    rw [e, textFrom_length_pos r 1 _ (by decide), piled_cons, strLen_append, strLen_append]
    have h1 : (("[" : String) : Str).length = 1 := rfl
    have h2 : (("" : String) : Str).length = 0 := rfl
    omega
theorem piled_tup (ts : List Str) : (tupleText ts).length ≤ piled ts + 3 := by
  unfold tupleText
  rw [strLen_append, strLen_append]
  have h1 : (("(" : String) : Str).length = 1 := rfl
  have h2 : (((if ts.length == 1 then ",)" else ")" : String) : Str)).length ≤ 2 := by split <;> decide
  by_cases h : ts = []
  · subst h
    exact Nat.le_of_lt (by decide)
  · have := join_length_add ts h
    omega
mutual
theorem small_shown : ∀ d : PyData, smallD d = true → d.shown.length + 4 ≤ 26 * nodes d ∧ d.showable = true ∧ d.hasDict = false
  | .none, _ => ⟨by simp only [PyData.shown, nodes]; decide, by simp [PyData.showable], by simp [PyData.hasDict]⟩
  | .bool b, _ => ⟨by cases b <;> simp only [PyData.shown, nodes] <;> decide, by simp [PyData.showable], by simp [PyData.hasDict]⟩
  | .int i, h => by
    have h : i.natAbs < 10 ^ 19 := by simpa [smallD] using h
    refine ⟨?_, ?_, by simp [PyData.hasDict]⟩
    · have := int_text_length_le10 (k := 19) (by decide) h
      simp only [PyData.shown, nodes]
      rw [PySem.ofString_length]
      omega
    · simp only [PyData.showable, decide_eq_true_eq]
      have : i.natAbs < 2 ^ 64 := by omega
      rcases Nat.eq_zero_or_pos i.natAbs with z | z
      · rw [z]
        decide
      · have := (Nat.log2_lt (by omega)).mpr this
        omega
  | .str x, h => by
    have h : (reprText x).length ≤ 20 := by simpa [smallD] using h
    refine ⟨by simp only [PyData.shown, nodes]; omega, by simp [PyData.showable], by simp [PyData.hasDict]⟩
  | .list xs, h => by
    obtain ⟨h1, h2, h3⟩ := small_shownAll xs (by simpa [smallD] using h)
    refine ⟨?_, by simpa [PyData.showable] using h2, by simpa [PyData.hasDict] using h3⟩
    have := piled_list (PyData.shownAll xs)
    simp only [PyData.shown, nodes]
    omega
  | .tuple xs, h => by
    obtain ⟨h1, h2, h3⟩ := small_shownAll xs (by simpa [smallD] using h)
    refine ⟨?_, by simpa [PyData.showable] using h2, by simpa [PyData.hasDict] using h3⟩
    have := piled_tup (PyData.shownAll xs)
    simp only [PyData.shown, nodes]
    omega
  | .dict kvs, h => by simp [smallD] at h
theorem small_shownAll : ∀ ds : List PyData, smallAll ds = true → piled (PyData.shownAll ds) ≤ 26 * nodesAll ds ∧ PyData.showableAll ds = true ∧ PyData.hasDictAll ds = false
  | [], _ => ⟨by simp [PyData.shownAll, nodesAll, piled], by simp [PyData.showableAll], by simp [PyData.hasDictAll]⟩
  | d :: ds, h => by
    have h : smallD d = true ∧ smallAll ds = true := by simpa [smallAll] using h
    obtain ⟨a1, a2, a3⟩ := small_shown d h.1
    obtain ⟨b1, b2, b3⟩ := small_shownAll ds h.2
    refine ⟨?_, by simp [PyData.showableAll, a2, b2], by simp [PyData.hasDictAll, a3, b3]⟩
    simp only [PyData.shownAll, nodesAll, piled_cons]
    omega
end
/-- data that repr may show -/
def ShowOk (d : PyData) : Prop := smallD d = true ∧ nodes d ≤ 600000 ∧ d.depth ≤ 60
instance (d : PyData) : Decidable (ShowOk d) := by unfold ShowOk; infer_instance
def rRepr : List V → Hp → VK → Prop := fun xs H Q => ∃ (a : Addr) (d : PyData), xs = [.ref a] ∧ Rp H (.ref a) d ∧ ShowOk d ∧ Q (.str d.shown) H
theorem call_reprD {X : Cx} (hg : X.A.guards = some []) (hu : X.A.units + 64 < cLine) : CallR X (.builtin "repr") rRepr := by
  intro pins s σ H xs us Q I r h
  obtain ⟨a, d, rfl, rp, ⟨ok, nd, dp⟩, q⟩ := h
  obtain ⟨h1, h2, h3⟩ := small_shown d ok
  cases r with
  | cons ra rn =>
    cases rn
    cases ra
    obtain ⟨as, reads⟩ := Dp.reads I d _ _ rp.dp rfl
    refine repr_of_reads' reads h2 (PyData.noDict_hsm h3) hg (by omega) (fun _ _ e => e) (fun h' u tk k => ⟨.str d.shown, H, I.kept k, ⟨u, rfl⟩, q⟩) ?_
    show d.shown.length ≤ 2 ^ 24
    omega
/-- small data: nodes, depth -/
def Sm (n k : Nat) (d : PyData) : Prop := smallD d = true ∧ nodes d ≤ n ∧ d.depth ≤ k
theorem Sm.imp {n k n' k' : Nat} {d : PyData} (h : Sm n k d) (a : n ≤ n') (b : k ≤ k') : Sm n' k' d := ⟨h.1, Nat.le_trans h.2.1 a, Nat.le_trans h.2.2 b⟩
theorem Sm.show {n k : Nat} {d : PyData} (h : Sm n k d) (a : n ≤ 600000 := by decide) (b : k ≤ 60 := by decide) : ShowOk d := h.imp a b
theorem sm_non : Sm 1 0 .none := ⟨by simp [smallD], by simp [nodes], by simp [PyData.depth]⟩
theorem sm_bool (b : Bool) : Sm 1 0 (.bool b) := ⟨by simp [smallD], by simp [nodes], by simp [PyData.depth]⟩
theorem sm_int {i : Int} (h : -10000000000000000000 < i ∧ i < 10000000000000000000) : Sm 1 0 (.int i) := ⟨by simp only [smallD, decide_eq_true_eq]; omega, by simp [nodes], by simp [PyData.depth]⟩
theorem sm_all {α : Type} {f : α → PyData} {n k : Nat} : ∀ {xs : List α}, (∀ x ∈ xs, Sm n k (f x)) → smallAll (xs.map f) = true ∧ nodesAll (xs.map f) ≤ xs.length * n ∧ PyData.depthAll (xs.map f) ≤ k
  | [], _ => ⟨by simp [smallAll], by simp [nodesAll], by simp [PyData.depthAll]⟩
  | x :: xs, h => by
    obtain ⟨a1, a2, a3⟩ := h x List.mem_cons_self
    obtain ⟨b1, b2, b3⟩ := sm_all fun y hy => h y (List.mem_cons_of_mem _ hy)
    refine ⟨by simp [smallAll, a1, b1], ?_, ?_⟩
    · simp only [List.map_cons, nodesAll, List.length_cons, Nat.succ_mul]
      omega
    · simp only [List.map_cons, PyData.depthAll]
      omega
theorem sm_L {α : Type} {f : α → PyData} {n k m : Nat} {xs : List α} (h : ∀ x ∈ xs, Sm n k (f x)) (hm : xs.length ≤ m) : Sm (1 + m * n) (k + 1) (encL f xs) := by
  obtain ⟨a1, a2, a3⟩ := sm_all h
  refine ⟨by simp [encL, smallD, a1], ?_, ?_⟩
  · have := Nat.mul_le_mul_right n hm
    simp only [encL, nodes]
    omega
  · simp only [encL, PyData.depth]
    omega
theorem sm_ints {xs : List Int} {m : Nat} (h : ∀ x ∈ xs, -10000000000000000000 < x ∧ x < 10000000000000000000) (hm : xs.length ≤ m) : Sm (1 + m * 1) 1 (encL PyData.int xs) := sm_L (fun x hx => sm_int (h x hx)) hm
theorem sm_T2 {α β : Type} {f : α → PyData} {g : β → PyData} {n k m j : Nat} {p : α × β} (h1 : Sm n k (f p.1)) (h2 : Sm m j (g p.2)) : Sm (1 + n + m) (max k j + 1) (encT2 f g p) := by
  obtain ⟨a1, a2, a3⟩ := h1
  obtain ⟨b1, b2, b3⟩ := h2
  refine ⟨by simp [encT2, smallD, smallAll, a1, b1], ?_, ?_⟩
  · simp only [encT2, nodes, nodesAll]
    omega
  · simp only [encT2, PyData.depth, PyData.depthAll]
    omega
theorem sm_T3 {α β γ : Type} {f : α → PyData} {g : β → PyData} {h : γ → PyData} {n k m j l i : Nat} {p : α × β × γ} (h1 : Sm n k (f p.1)) (h2 : Sm m j (g p.2.1)) (h3 : Sm l i (h p.2.2)) : Sm (1 + n + m + l) (max k (max j i) + 1) (encT3 f g h p) := by
  obtain ⟨a1, a2, a3⟩ := h1
  obtain ⟨b1, b2, b3⟩ := h2
  obtain ⟨c1, c2, c3⟩ := h3
  refine ⟨by simp [encT3, smallD, smallAll, a1, b1, c1], ?_, ?_⟩
  · simp only [encT3, nodes, nodesAll]
    omega
  · simp only [encT3, PyData.depth, PyData.depthAll]
    omega
end Vx
namespace Vx
open PySem PySem.Spec PyProof.Rows L2
theorem new_ne2 {H : Hp} {L : List Addr} {x : Addr} (n : ∀ b ∈ L, H b = none) (h : H x ≠ none) : ∀ b ∈ L, b ≠ x := fun b hb z => h (z ▸ n b hb)
theorem upd_tree {α : Type} {f : α → Dt} {G H H' : Hp} {L L1 : List Addr} {vs : List V} {xs : List α} {k : Int} {v : V} {m : Addr} {y : α} (up : ∀ H' y, (∀ b ∈ L, b ∉ L1 → ∀ o, H b = some o → H' b = some o) → Ow G H' L1 v (f y) → OwAll G H' L vs ((setL xs k y).map f)) (x : SameX m H H') (hm : m ∈ L1) (w : Ow G H' L1 v (f y)) :
    OwAll G H' L vs ((setL xs k y).map f) := up H' y (fun c _ n o q => x c o q (fun z => n (z ▸ hm))) w
theorem Ow.toFrz {α : Type} {f : α → PyData} {G H : Hp} {L : List Addr} {v : V} {x : α} (w : Ow G H L v (oF f x)) : L = [] ∧ Rp G v (f x) := by
  unfold oF at w
  cases w with
  | frz r => exact ⟨rfl, r⟩
section
variable {α : Type} {f : α → Dt} {G H : Hp} {L : List Addr} {vs : List V} {xs : List α}
theorem OwAll.pin {i : Nat} {v : V} {x : α} (w : OwAll G H L vs (xs.map f)) (h : vs[i]? = some v) (hx : xs[i]? = some x) : ∃ L1, Ow G H L1 v (f x) ∧ ∀ b ∈ L1, b ∈ L := by
  obtain ⟨y, L1, h1, h2, h3⟩ := OwAll.turn w h
  rw [hx] at h1
  cases h1
  exact ⟨L1, h2, h3⟩
theorem OwAll.pinInts {i : Nat} {b : Addr} {xs : List (List Int)} {x : List Int} (w : OwAll G H L vs (xs.map (oL oI))) (h : vs[i]? = some (.ref b)) (hx : xs[i]? = some x) : H b = some (.lst (x.map V.int)) ∧ b ∈ L := by
  obtain ⟨L1, w1, h1⟩ := OwAll.pin w h hx
  obtain ⟨c, e, rfl, h2⟩ := Ow.toInts w1
  cases e
  exact ⟨h2, h1 _ List.mem_cons_self⟩
end
end Vx
namespace Vx
open PySem PySem.Spec PyProof.Rows L2
theorem lookup_relab {c : Str → Bool} {y : Str} : ∀ l : List (Str × NameKind), (l.lookup y = some .cell ∨ l.lookup y = some .free) →
    ((l.map fun (n, k) => if (k == .free && c n) then (n, NameKind.cell) else (n, k)).lookup y = some .cell ∨ (l.map fun (n, k) => if (k == .free && c n) then (n, NameKind.cell) else (n, k)).lookup y = some .free)
  | [], h => by simp at h
  | (n, k) :: r, h => by
    rw [List.map_cons]
    dsimp only
    by_cases e : y == n
    · have hk : k = .cell ∨ k = .free := by
        rw [List.lookup_cons, e] at h
        simpa using h
      by_cases q : (k == .free && c n) = true
      · left
        rw [if_pos q, List.lookup_cons, e]
      · rw [if_neg q, List.lookup_cons, e]
        simpa using hk
    · have e : (y == n) = false := by simpa using e
      rw [List.lookup_cons, e] at h
      have ih := lookup_relab (c := c) r h
      by_cases q : (k == .free && c n) = true
      · rw [if_pos q, List.lookup_cons, e]
        exact ih
      · rw [if_neg q, List.lookup_cons, e]
        exact ih
theorem blk_relabel {N : List Str} {sc scope : Scope} {env : Env} {own : List (Str × Nat)} (h : BlkOk N sc scope own) : BlkOk N (relabel sc env) scope own := by
  refine ⟨h.kind, h.uniq, h.ix, fun y hy e => ?_, h.own⟩
  have z := lookup_relab (c := fun n => env.scope.kind == .function && env.kindOf n == some .cell) (y := y.1) sc.names (h.free y hy e)
  unfold relabel
  simpa only [Bool.and_assoc] using z
end Vx
namespace Vx
open PySem PySem.Spec PyProof.Rows L2
theorem FnG.low {P : Program} {w : World} {K : PySem.W.Frag} {mg : Str → Option Value} {base : Heap} {cx : CXT} {j k : Nat} {f : Addr} {fd : FuncData} {ps : List Str} {sp : Sp} (F : FnG P w K mg base cx j f fd ps sp) (h : j ≤ k) : FnG P w K mg base cx k f fd ps sp := ⟨F.len, fun A o s H a us vs Q E r => F.run A o s H a us vs Q E (r.low h)⟩
/-! ### a local name that holds one of several defs -/
structure HeldX (P : Program) (w : World) (K : PySem.W.Frag) (mg : Str → Option Value) (base : Heap) (k n : Nat) (f : Addr) (sp : Sp) : Prop where
  ex : ∃ (fd : FuncData) (ps : List Str), FnG P w K mg base (L2.CX P w) k f fd ps sp ∧ PySem.W.keepIn K (.ref f) = true ∧ Bnd K fd ps n [] (fun vs _ => vs)
theorem HeldX.of {P : Program} {w : World} {K : PySem.W.Frag} {mg : Str → Option Value} {base : Heap} {j k n : Nat} {x : Str} {sp : Sp} {pats : List Pat} {a : Addr} (c : CalX P w K mg base j x sp pats) (hx : mg x = some (.ref a)) (hp : (n, [], fun vs _ => vs) ∈ pats) (hj : j ≤ k) : HeldX P w K mg base k n a sp := by
  obtain ⟨f, fd, ps, F, hm, kp, b⟩ := c.ex
  rw [hx] at hm
  injection hm with hm
  injection hm with hm
  subst hm
  exact ⟨fd, ps, F.low hj, kp, b _ hp⟩
def tCallF (i n : Nat) (L : List (Addr × Sp)) (W : WX) (t : TA) : TE := fun σ H Q => ∃ f sp, σ[i]? = some (some (.ref f)) ∧ (f, sp) ∈ L ∧ t σ H fun vs H1 => vs.length = n ∧ ([] : List V).length = 0 ∧ sp vs H1 Q (WE W σ)
theorem vx_callF {X : Cx} {k j i n : Nat} {x : Str} {p pos : Pos} {e : Expr} {es : List Expr} {t : TA} {W : WX} (L : List (Addr × Sp)) (A : ∀ q ∈ L, HeldX X.prog X.w X.K X.mg X.base k n q.1 q.2) (hr : RoomG j X.A) (hk : k ≤ j) (tkW : Takes X W) (hN : X.N[i]? = some x) (hv : Vis X.env.scope x) (ha : PA X (e :: es) t)
    (hdb : (x == ("__debug__" : Str)) = false := by decide) (hcd : (x == ("__classdict__" : Str)) = false := by decide) (he : starEach (e :: es) X.env = (false, eval e X.env) :: starEach es X.env := by rfl) (hpl : (backTo pos (starEach es X.env)).any (·.1) = false := by rfl) :
    PE X (.Call (.Name x p) (e :: es) [] pos) (tCallF i n L W t) := by
  constructor
  intro pins s σ H Q I h
  obtain ⟨f, sp, slot, mem, rest⟩ := h
  obtain ⟨fd, ps, F, kp, b⟩ := (A _ mem).ex
  refine wpAny_Call_Name_kw (thn ((pe_var (pos := p) hN hv hdb hcd).run pins s σ H (fun v H1 => v = .ref f ∧ H1 = H) I ⟨.ref f, slot, rfl, rfl⟩) ?_)
  rintro u s1 ⟨v, H1, I1, r1, rfl, rfl⟩
  cases r1
  refine PySem.W.callWith_K (h₀ := X.base) I.ok.mod.kin kp (thn (ha.run pos pins s1 σ _ _ I1 rest) ?_) he hpl
  rintro us s2 ⟨vs, H2, I2, r, l1, l2, q⟩
  exact ⟨I2.kIn, run_X (us := us) (ws := []) (zs := []) F (hr.low hk) b tkW I2 r .nil l1 l2 q⟩
/-! ### the least of a list, the place of an item -/
def minL : List Int → Int
  | [] => 0
  | [x] => x
  | x :: y :: r => if x ≤ minL (y :: r) then x else minL (y :: r)
theorem minL_spec : ∀ (xs : List Int), xs ≠ [] → minL xs ∈ xs ∧ ∀ y ∈ xs, minL xs ≤ y
  | [], h => absurd rfl h
  | [x], _ => ⟨List.mem_cons_self, fun y hy => by rw [List.mem_singleton.mp hy]; exact Int.le_refl x⟩
  | x :: y :: r, _ => by
    obtain ⟨h1, h2⟩ := minL_spec (y :: r) (fun z => nomatch z)
    unfold minL
    split
    · refine ⟨List.mem_cons_self, fun z hz => ?_⟩
      rcases List.mem_cons.mp hz with rfl | hz
      · exact Int.le_refl _
      · have := h2 z hz
        omega
    · refine ⟨List.mem_cons_of_mem _ h1, fun z hz => ?_⟩
      rcases List.mem_cons.mp hz with rfl | hz
      · omega
      · exact h2 z hz
def maxL (xs : List Int) : Int := -(minL (xs.map fun x => -x))
theorem maxL_spec (xs : List Int) (h : xs ≠ []) : maxL xs ∈ xs ∧ ∀ y ∈ xs, y ≤ maxL xs := by
  obtain ⟨h1, h2⟩ := minL_spec (xs.map fun x => -x) (by simpa using h)
  obtain ⟨z, hz, e⟩ := List.mem_map.mp h1
  unfold maxL
  refine ⟨by rw [← e, Int.neg_neg]; exact hz, fun y hy => ?_⟩
  have := h2 _ (List.mem_map_of_mem hy)
  omega
section
variable {X : Cx} {K : PySem.W.Frag}
def rMinL (K : PySem.W.Frag) : List V → Hp → VK → Prop := fun vs H Q => ∃ (a : Addr) (ns : List Int), vs = [V.ref a] ∧ SqL K H a (ns.map V.int) ∧ ns ≠ [] ∧ Q (.int (minL ns)) H
def rMaxL (K : PySem.W.Frag) : List V → Hp → VK → Prop := fun vs H Q => ∃ (a : Addr) (ns : List Int), vs = [V.ref a] ∧ SqL K H a (ns.map V.int) ∧ ns ≠ [] ∧ Q (.int (maxL ns)) H
theorem cr_minL (hc : X.calm = true) (hK : X.K = K := by rfl) : CallR X (.builtin "min") (rMinL K) := by
  subst hK
  intro pins s σ H vs us Q I r h
  obtain ⟨a, ns, rfl, hs, hn, q⟩ := h
  refine cr_min hc pins s σ H _ us Q I r ⟨a, ns, rfl, hs, List.length_pos_iff.mpr hn, fun m hm hle => ?_⟩
  obtain ⟨h1, h2⟩ := minL_spec ns hn
  have e : m = minL ns := Int.le_antisymm (by have := hle _ h1; omega) (h2 m hm)
  rw [e]
  exact q
theorem cr_maxL (hc : X.calm = true) (hK : X.K = K := by rfl) : CallR X (.builtin "max") (rMaxL K) := by
  subst hK
  intro pins s σ H vs us Q I r h
  obtain ⟨a, ns, rfl, hs, hn, q⟩ := h
  refine cr_max hc pins s σ H _ us Q I r ⟨a, ns, rfl, hs, List.length_pos_iff.mpr hn, fun m hm hle => ?_⟩
  obtain ⟨h1, h2⟩ := maxL_spec ns hn
  have e : m = maxL ns := Int.le_antisymm (h2 m hm) (by have := hle _ h1; omega)
  rw [e]
  exact q
end
end Vx
namespace Vx
open PySem PySem.Spec PyProof.Rows L2
def idxL (ns : List Int) (i : Int) : Int := (ns.idxOf i : Nat)
def rIndexI (K : PySem.W.Frag) : V → List V → Hp → VK → Prop := fun x xs H Q => ∃ (a : Addr) (ns : List Int) (i : Int), x = V.ref a ∧ xs = [.int i] ∧ SqL K H a (ns.map V.int) ∧ i ∈ ns ∧ Q (.int (idxL ns i)) H
theorem mt_indexI {X : Cx} {K : PySem.W.Frag} (hK : X.K = K := by rfl) : MtR X "list.index" (rIndexI K) := by
  subst hK
  intro pins s σ H x xs v us Q I rx rxs h
  obtain ⟨a, ns, i, rfl, rfl, hs, hi, q⟩ := h
  have hl := List.idxOf_lt_length_of_mem hi
  refine mt_index pins s σ H _ _ v us Q I rx rxs ⟨a, _, .int i, ns.idxOf i, .int i, rfl, rfl, hs, rfl, flat_ints ns, ?_, by simp [eqV], fun m z hm hz => ?_, q⟩
  · rw [List.getElem?_map, List.getElem?_eq_getElem hl, List.getElem_idxOf hl] <;> rfl
  · rw [List.getElem?_map] at hz
    cases e : ns[m]? with
    | none => rw [e] at hz; cases hz
    | some y =>
      rw [e] at hz
      cases hz
      have hml : m < ns.length := by omega
      have hy : ns[m] = y := by
        rw [List.getElem?_eq_getElem hml] at e
        exact Option.some.inj e
      have := List.not_of_lt_findIdx (p := (· == i)) (xs := ns) (i := m) hm
      simp only [beq_iff_eq, hy] at this
      simp [eqV, this]
theorem cW_aftgo {σ ρ τ : Type} {s : σ} {kr : ρ → Rx τ} {k : σ → Rx τ} {K : τ → Prop} {E : Nat → Prop} (h : cW ((Lp.go s : Lp σ ρ).aft kr k) K E) : cW (k s) K E := h
end Vx
/-! # fourth part: reckoning with functions that may refuse -/
namespace Vx
open PySem PySem.Spec PyProof.Rows L2
section
variable {α β σ ρ τ : Type}
theorem bind_ok (a : α) (f : α → Rx β) : (Rx.ok a).bind f = f a := rfl
theorem bind_er (e : Nat) (f : α → Rx β) : (Rx.er e : Rx α).bind f = .er e := rfl
theorem grd_pos {p : Prop} {dp : Decidable p} {m : Rx α} (h : p) : grd p m = m := if_pos h
theorem bnd_eq (a : α) (f : α → Rx β) : bnd a f = f a := rfl
theorem noEr_ok (a : α) : noEr (.ok a : Rx α) = .ok a := rfl
theorem tryR_ok {cs : List Nat} (a : α) (f : α → Rx β) (g : Nat → Rx β) : tryR (.ok a) cs f g = f a := rfl
theorem tryR_er {cs : List Nat} {e : Nat} (h : e ∈ cs) (f : α → Rx β) (g : Nat → Rx β) : tryR (.er e) cs f g = g e := if_pos h
theorem aft_go (s : σ) (kr : ρ → Rx τ) (k : σ → Rx τ) : (Lp.go s : Lp σ ρ).aft kr k = k s := rfl
theorem aft_rt (r : ρ) (kr : ρ → Rx τ) (k : σ → Rx τ) : (Lp.rt r : Lp σ ρ).aft kr k = kr r := rfl
/-- gives a value of which P holds -/
def Gv (m : Rx α) (P : α → Prop) : Prop := ∃ v, m = .ok v ∧ P v
theorem Gv.ok {a : α} {P : α → Prop} (h : P a) : Gv (.ok a) P := ⟨a, rfl, h⟩
theorem Gv.of_eq {m : Rx α} {a : α} {P : α → Prop} (e : m = .ok a) (h : P a) : Gv m P := ⟨a, e, h⟩
theorem Gv.bind {m : Rx α} {f : α → Rx β} {P : α → Prop} {Q : β → Prop} (h : Gv m P) (k : ∀ v, P v → Gv (f v) Q) : Gv (m.bind f) Q := by
  obtain ⟨v, rfl, p⟩ := h
  exact k v p
theorem Gv.bind_eq {m : Rx α} {f : α → Rx β} {a : α} {Q : β → Prop} (h : m = .ok a) (k : Gv (f a) Q) : Gv (m.bind f) Q := by
  subst h
  exact k
theorem Gv.grd {p : Prop} {dp : Decidable p} {m : Rx α} {Q : α → Prop} (h : p) (k : Gv m Q) : Gv (Vx.grd p m) Q := by
  rw [grd_pos h]
  exact k
theorem Gv.bnd {a : α} {f : α → Rx β} {Q : β → Prop} (k : ∀ x, x = a → Gv (f x) Q) : Gv (Vx.bnd a f) Q := k a rfl
theorem Gv.ite {p : Prop} {dp : Decidable p} {a b : Rx α} {Q : α → Prop} (h1 : p → Gv a Q) (h2 : ¬ p → Gv b Q) : Gv (if p then a else b) Q := by
  split
  · exact h1 ‹_›
  · exact h2 ‹_›
theorem Gv.pos {p : Prop} {dp : Decidable p} {a b : Rx α} {Q : α → Prop} (h : p) (k : Gv a Q) : Gv (if p then a else b) Q := by rwa [if_pos h]
theorem Gv.neg {p : Prop} {dp : Decidable p} {a b : Rx α} {Q : α → Prop} (h : ¬ p) (k : Gv b Q) : Gv (if p then a else b) Q := by rwa [if_neg h]
theorem Gv.imp {m : Rx α} {P Q : α → Prop} (h : Gv m P) (k : ∀ v, P v → Q v) : Gv m Q := by
  obtain ⟨v, e, p⟩ := h
  exact ⟨v, e, k v p⟩
theorem Gv.noEr {m : Rx α} {P : α → Prop} (h : Gv m P) : Gv (Vx.noEr m) P := by
  obtain ⟨v, rfl, p⟩ := h
  exact ⟨v, rfl, p⟩
theorem Gv.tryOk {m : Rx α} {cs : List Nat} {f : α → Rx β} {g : Nat → Rx β} {P : α → Prop} {Q : β → Prop} (h : Gv m P) (k : ∀ v, P v → Gv (f v) Q) : Gv (tryR m cs f g) Q := by
  obtain ⟨v, rfl, p⟩ := h
  exact k v p
theorem Gv.tryEr {m : Rx α} {cs : List Nat} {e : Nat} {f : α → Rx β} {g : Nat → Rx β} {Q : β → Prop} (h : m = .er e) (hm : e ∈ cs) (k : Gv (g e) Q) : Gv (tryR m cs f g) Q := by
  subst h
  rw [tryR_er hm]
  exact k
theorem Gv.get {m : Rx α} {a : α} (h : Gv m (fun v => v = a)) : m = .ok a := by
  obtain ⟨v, e, rfl⟩ := h
  exact e
theorem Gv.eq {m : Rx α} {P : α → Prop} (h : Gv m P) : ∃ v, m = .ok v ∧ P v := h
/-- a loop that keeps P -/
theorem Gv.forS {P : Nat → σ → Prop} {xs : List α} {s : σ} {f : σ → α → Rx σ} (h0 : P 0 s) (hs : ∀ i x s, xs[i]? = some x → P i s → Gv (f s x) (P (i + 1))) : Gv (Vx.forS xs s f) (P xs.length) := by
  induction xs generalizing s P with
  | nil => exact .ok h0
  | cons x r ih =>
    refine Gv.bind (hs 0 x s rfl h0) fun s' p => ?_
    exact ih (P := fun i => P (i + 1)) p fun i y s hy q => hs (i + 1) y s (by simpa using hy) q
theorem Gv.forR {P : Nat → σ → Prop} {xs : List α} {s : σ} {f : σ → α → Rx (Lp σ ρ)} (h0 : P 0 s) (hs : ∀ i x s, xs[i]? = some x → P i s → Gv (f s x) (fun l => ∃ s', l = .go s' ∧ P (i + 1) s')) : Gv (Vx.forR xs s f) (fun l => ∃ s', l = .go s' ∧ P xs.length s') := by
  induction xs generalizing s P with
  | nil => exact .ok ⟨s, rfl, h0⟩
  | cons x r ih =>
    refine Gv.bind (hs 0 x s rfl h0) ?_
    rintro _ ⟨s', rfl, p⟩
    exact ih (P := fun i => P (i + 1)) p fun i y s hy q => hs (i + 1) y s (by simpa using hy) q
/-- a loop that carries nothing -/
theorem forR_unit {xs : List α} {f : Unit → α → Rx (Lp Unit ρ)} (h : ∀ x ∈ xs, f () x = .ok (.go ())) : Vx.forR xs () f = .ok (.go ()) := by
  induction xs with
  | nil => rfl
  | cons x r ih =>
    show (f () x).bind _ = _
    rw [h x List.mem_cons_self]
    exact ih fun y hy => h y (List.mem_cons_of_mem _ hy)
theorem forS_pure {xs : List α} {s : σ} {f : σ → α → Rx σ} {g : σ → α → σ} (h : ∀ s x, x ∈ xs → f s x = .ok (g s x)) : Vx.forS xs s f = .ok (xs.foldl g s) := by
  induction xs generalizing s with
  | nil => rfl
  | cons x r ih =>
    show (f s x).bind _ = _
    rw [h s x List.mem_cons_self]
    exact ih fun s y hy => h s y (List.mem_cons_of_mem _ hy)
theorem mapA_pure {xs : List α} {acc : List β} {f : α → Rx β} {g : α → β} (h : ∀ x ∈ xs, f x = .ok (g x)) (hl : acc.length + xs.length ≤ 1000000) : mapA xs acc f = .ok (acc ++ xs.map g) := by
  induction xs generalizing acc with
  | nil => simp [mapA]
  | cons x r ih =>
    rw [List.length_cons] at hl
    unfold mapA
    rw [grd_pos (by omega), h x List.mem_cons_self, bind_ok, ih (fun y hy => h y (List.mem_cons_of_mem _ hy)) (by rw [List.length_append, List.length_cons, List.length_nil]; omega)]
    simp
theorem mapA_pure0 {xs : List α} {f : α → Rx β} {g : α → β} (h : ∀ x ∈ xs, f x = .ok (g x)) (hl : xs.length ≤ 1000000) : mapA xs [] f = .ok (xs.map g) := by
  rw [mapA_pure h (by simpa using hl)]
  rfl
theorem mapF_pure {xs : List α} {acc : List β} {f : α → Rx (Option β)} {g : α → Option β} (h : ∀ x ∈ xs, f x = .ok (g x)) (hl : acc.length + xs.length ≤ 1000000) : mapF xs acc f = .ok (acc ++ xs.filterMap g) := by
  induction xs generalizing acc with
  | nil => simp [mapF]
  | cons x r ih =>
    rw [List.length_cons] at hl
    unfold mapF
    rw [grd_pos (by omega), h x List.mem_cons_self, bind_ok]
    cases e : g x with
    | none =>
      show mapF r acc f = _
      rw [ih (fun y hy => h y (List.mem_cons_of_mem _ hy)) (by omega), List.filterMap_cons, e]
    | some z =>
      show mapF r (acc ++ [z]) f = _
      rw [ih (fun y hy => h y (List.mem_cons_of_mem _ hy)) (by rw [List.length_append, List.length_cons, List.length_nil]; omega), List.filterMap_cons, e]
      simp
/-- a while that ends: m falls -/
theorem Gv.whileR {P : σ → Prop} {R : σ → Prop} (m : σ → Nat) {f : σ → Rx (Lp σ ρ)} (hs : ∀ s, P s → Gv (f s) (fun l => (∃ s', l = .go s' ∧ P s' ∧ m s' < m s) ∨ ∃ s', l = .bk s' ∧ R s')) : ∀ {n : Nat} {s : σ}, P s → m s < n → Gv (Vx.whileR n s f) (fun l => ∃ s', l = .go s' ∧ R s') := by
  intro n
  induction n with
  | zero => intro s _ h; exact absurd h (Nat.not_lt_zero _)
  | succ n ih =>
    intro s p h
    refine Gv.bind (hs s p) ?_
    rintro _ (⟨s', rfl, p', l⟩ | ⟨s', rfl, r⟩)
    · exact ih p' (by omega)
    · exact .ok ⟨s', rfl, r⟩
end
theorem rng_mem {lo x : Int} {n : Nat} (h : x ∈ rng lo n) : lo ≤ x ∧ x < lo + n := by
  unfold rng at h
  obtain ⟨j, hj, rfl⟩ := List.mem_map.mp h
  have := List.mem_range.mp hj
  omega
theorem rng_at {lo x : Int} {n i : Nat} (h : (rng lo n)[i]? = some x) : x = lo + i ∧ i < n := by
  have hl := get_len h
  rw [rng_len] at hl
  rw [rng_get hl] at h
  exact ⟨(Option.some.inj h).symm, hl⟩
end Vx
namespace Vx
open PySem PySem.Spec PyProof.Rows L2
def F__law_draws_b1 (free_15 : Bool) (found_33 : (List Int)) (rest_34 : Int) (state_35 : Int) (it38 : Int) : Rx ((List Int) × Int × Int) :=
  (if free_15 = true then (if 1 < rest_34 then grd (0 < (it38 : Int)) <| grd ((found_33).length ≤ 1000000) <| bnd ((found_33) ++ [(rest_34 % it38)]) fun y49 => grd (0 < (it38 : Int) ∧ (it38 : Int) < 2 ^ 128) <| bnd ((rest_34 / it38)) fun rest_51 => .ok ((y49), (rest_51), (state_35)) else bnd ((((state_35 * 48271) + 11) % 2147483647)) fun state_52 => bnd ((((state_52 * 69621) + 7) % 2147483647)) fun state_53 => grd (0 < (it38 : Int)) <| grd ((found_33).length ≤ 1000000) <| bnd ((found_33) ++ [((state_53 / 13) % it38)]) fun y62 => .ok ((y62), (rest_34), (state_53))) else bnd ((((state_35 * 48271) + 11) % 2147483647)) fun state_63 => bnd ((((state_63 * 69621) + 7) % 2147483647)) fun state_64 => grd (0 < (it38 : Int)) <| grd ((found_33).length ≤ 1000000) <| bnd ((found_33) ++ [((state_64 / 13) % it38)]) fun y73 => .ok ((y73), (rest_34), (state_64)))

def F__law_draws_r1 (found_79 : (List Int)) (rest_80 : Int) (state_81 : Int) : Rx (List Int) :=
  .ok (found_79)

def F__law_draws (cell' : Int) (limits' : (List Int)) : Rx (List Int) :=
  bnd ((if cell' < 0 then -cell' else cell')) fun rest_10 => bnd ((rest_10 % 2147483647)) fun state_11 => bnd ((decide (cell' < 0) || decide (((10 : Int) ^ Int.toNat 18) ≤ cell'))) fun free_14 => Rx.bind (forS (limits') ((([] : (List Int))), (rest_10), (state_11)) (fun s x => F__law_draws_b1 (free_14) (s.1) (s.2.1) (s.2.2) x)) fun s => F__law_draws_r1  (s.1) (s.2.1) (s.2.2)

def F__law_around_c3 (top_180 : Int) (it227 : Int) : Rx Int :=
  grd ((-(2 ^ 64) < (top_180 : Int) ∧ (top_180 : Int) < 2 ^ 64) ∨ (-(2 ^ 64) < ((PySem.Builtin.bitAnd (it227) (1)) : Int) ∧ ((PySem.Builtin.bitAnd (it227) (1)) : Int) < 2 ^ 64)) <| .ok ((top_180 * (PySem.Builtin.bitAnd (it227) (1))))

def F__law_around_c5 (top_268 : Int) (draws_269 : (List Int)) (n_270 : Int) (it303 : Int) : Rx Int :=
  grd (-((draws_269).length : Int) ≤ 2 ∧ 2 < ((draws_269).length : Int)) <| grd (-((draws_269).length : Int) ≤ 4 ∧ 4 < ((draws_269).length : Int)) <| grd ((-(2 ^ 64) < (((itD (draws_269) (4)) - 4) : Int) ∧ (((itD (draws_269) (4)) - 4) : Int) < 2 ^ 64) ∨ (-(2 ^ 64) < ((it303 - n_270) : Int) ∧ ((it303 - n_270) : Int) < 2 ^ 64)) <| .ok ((if (if ((itD (draws_269) (2)) + (((itD (draws_269) (4)) - 4) * (it303 - n_270))) > 0 then ((itD (draws_269) (2)) + (((itD (draws_269) (4)) - 4) * (it303 - n_270))) else 0) < top_268 then (if ((itD (draws_269) (2)) + (((itD (draws_269) (4)) - 4) * (it303 - n_270))) > 0 then ((itD (draws_269) (2)) + (((itD (draws_269) (4)) - 4) * (it303 - n_270))) else 0) else top_268))

def F__law_around_k4 (n_259 : Int) (values_260 : (List Int)) : Rx ((List Int) × (List Int) × Int) :=
  grd (-((values_260).length : Int) ≤ n_259 ∧ n_259 < ((values_260).length : Int)) <| .ok ((cutL (values_260) (some ((n_259 + 1))) none, cutL (values_260) none (some (n_259)), (itD (values_260) (n_259))))

def F__law_around_k2 (top_170 : Int) (draws_171 : (List Int)) (n_172 : Int) (values_173 : (List Int)) : Rx ((List Int) × (List Int) × Int) :=
  Rx.bind ((grd (-((draws_171).length : Int) ≤ 0 ∧ 0 < ((draws_171).length : Int)) <| (if ((itD (draws_171) (0)) : Int) = 2 then grd (-(2 ^ 62) ≤ ((2 * n_172) + 1) ∧ ((2 * n_172) + 1) < 2 ^ 62) <| Rx.bind (mapA (rng (0) (Int.toNat (((2 * n_172) + 1)))) [] (fun x => noEr (F__law_around_c5 (top_170) (draws_171) (n_172) x))) fun v271 => .ok (v271) else .ok (values_173)) : Rx ((List Int)))) fun s => F__law_around_k4 (n_172) s

def F__law_around_k1 (top_130 : Int) (draws_131 : (List Int)) (n_132 : Int) (values_133 : (List Int)) : Rx ((List Int) × (List Int) × Int) :=
  Rx.bind ((grd (-((draws_131).length : Int) ≤ 0 ∧ 0 < ((draws_131).length : Int)) <| (if ((itD (draws_131) (0)) : Int) = 1 then Rx.bind (mapA (values_133) [] (fun x => noEr (F__law_around_c3 (top_130) x))) fun v181 => .ok (v181) else .ok (values_133)) : Rx ((List Int)))) fun s => F__law_around_k2 (top_130) (draws_131) (n_132) s

def F__law_around (cell' : Int) (top' : Int) : Rx ((List Int) × (List Int) × Int) :=
  Rx.bind (F__law_draws cell' ([5, 2, (top' + 1), (top' + 1), 9])) fun v91 => grd (-((v91).length : Int) ≤ 1 ∧ 1 < ((v91).length : Int)) <| bnd ((4 + (4 * (itD (v91) (1))))) fun n_101 => grd (-(2 ^ 63) ≤ (((2 * n_101) + 1) : Int) ∧ (((2 * n_101) + 1) : Int) < 2 ^ 63 ∧ ([(top' + 1)]).length * Int.toNat (((2 * n_101) + 1)) ≤ 1000000) <| Rx.bind (F__law_draws ((cell' / 5)) (repL ([(top' + 1)]) (((2 * n_101) + 1)))) fun v121 => Rx.bind ((grd (-((v91).length : Int) ≤ 0 ∧ 0 < ((v91).length : Int)) <| (if ((itD (v91) (0)) : Int) = 0 then grd (-((v91).length : Int) ≤ 2 ∧ 2 < ((v91).length : Int)) <| grd (-(2 ^ 63) ≤ (((2 * n_101) + 1) : Int) ∧ (((2 * n_101) + 1) : Int) < 2 ^ 63 ∧ ([(itD (v91) (2))]).length * Int.toNat (((2 * n_101) + 1)) ≤ 1000000) <| .ok (repL ([(itD (v91) (2))]) (((2 * n_101) + 1))) else .ok (v121)) : Rx ((List Int)))) fun s => F__law_around_k1 (top') (v91) (n_101) s

def F__mean_shift (n' : Int) : Rx Int :=
  .ok ((if (n' : Int) = 8 then 4 else 3))

def F__average_c1 (n_387 : Int) (value_388 : Int) (it429 : Int) : Rx (List Int) :=
  grd (-(2 ^ 63) ≤ (n_387 : Int) ∧ (n_387 : Int) < 2 ^ 63 ∧ ([value_388]).length * Int.toNat (n_387) ≤ 1000000) <| .ok (repL ([value_388]) (n_387))

def F__average (above' : (List Int)) (left' : (List Int)) (corner' : Int) (top' : Int) : Rx (List (List Int)) :=
  bnd ((((above') : (List Int)).length : Int)) fun n_383 => Rx.bind (F__mean_shift n_383) fun v384 => grd ((0 : Int) ≤ v384) <| bnd (((((List.sum (above')) + (List.sum (left'))) + n_383) / 2 ^ Int.toNat (v384))) fun value_386 => Rx.bind (mapA (left') [] (fun x => noEr (F__average_c1 (n_383) (value_386) x))) fun v389 => .ok (v389)

def F__vertical_c1 (above_469 : (List Int)) (it510 : Int) : Rx (List Int) :=
  .ok above_469

def F__vertical (above' : (List Int)) (left' : (List Int)) (corner' : Int) (top' : Int) : Rx (List (List Int)) :=
  Rx.bind (mapA (left') [] (fun x => noEr (F__vertical_c1 (above') x))) fun v470 => .ok (v470)

def F__horizontal_c1 (above_540 : (List Int)) (it581 : Int) : Rx (List Int) :=
  grd (-(2 ^ 63) ≤ ((((above_540) : (List Int)).length : Int) : Int) ∧ ((((above_540) : (List Int)).length : Int) : Int) < 2 ^ 63 ∧ ([it581]).length * Int.toNat ((((above_540) : (List Int)).length : Int)) ≤ 1000000) <| .ok (repL ([it581]) ((((above_540) : (List Int)).length : Int)))

def F__horizontal (above' : (List Int)) (left' : (List Int)) (corner' : Int) (top' : Int) : Rx (List (List Int)) :=
  Rx.bind (mapA (left') [] (fun x => noEr (F__horizontal_c1 (above') x))) fun v541 => .ok (v541)

def F__smooth_c2 (above_661 : (List Int)) (left_662 : (List Int)) (n_663 : Int) (shift_664 : Int) (j_665 : Int) (low_666 : Int) (it699 : Int) : Rx Int :=
  grd (-((above_661).length : Int) ≤ it699 ∧ it699 < ((above_661).length : Int)) <| grd ((-(2 ^ 64) < (((n_663 - 1) - j_665) : Int) ∧ (((n_663 - 1) - j_665) : Int) < 2 ^ 64) ∨ (-(2 ^ 64) < ((itD (above_661) (it699)) : Int) ∧ ((itD (above_661) (it699)) : Int) < 2 ^ 64)) <| grd (-((left_662).length : Int) ≤ j_665 ∧ j_665 < ((left_662).length : Int)) <| grd ((-(2 ^ 64) < (((n_663 - 1) - it699) : Int) ∧ (((n_663 - 1) - it699) : Int) < 2 ^ 64) ∨ (-(2 ^ 64) < ((itD (left_662) (j_665)) : Int) ∧ ((itD (left_662) (j_665)) : Int) < 2 ^ 64)) <| grd (-((above_661).length : Int) ≤ (n_663 - 1) ∧ (n_663 - 1) < ((above_661).length : Int)) <| grd ((-(2 ^ 64) < ((it699 + 1) : Int) ∧ ((it699 + 1) : Int) < 2 ^ 64) ∨ (-(2 ^ 64) < ((itD (above_661) ((n_663 - 1))) : Int) ∧ ((itD (above_661) ((n_663 - 1))) : Int) < 2 ^ 64)) <| grd ((0 : Int) ≤ shift_664) <| .ok ((((((((n_663 - 1) - j_665) * (itD (above_661) (it699))) + low_666) + (((n_663 - 1) - it699) * (itD (left_662) (j_665)))) + ((it699 + 1) * (itD (above_661) ((n_663 - 1))))) / 2 ^ Int.toNat (shift_664)))

def F__smooth_b1 (above_634 : (List Int)) (left_635 : (List Int)) (n_636 : Int) (shift_637 : Int) (rows_653 : (List (List Int))) (it656 : Int) : Rx ((List (List Int))) :=
  grd (-((left_635).length : Int) ≤ (n_636 - 1) ∧ (n_636 - 1) < ((left_635).length : Int)) <| grd ((-(2 ^ 64) < ((it656 + 1) : Int) ∧ ((it656 + 1) : Int) < 2 ^ 64) ∨ (-(2 ^ 64) < ((itD (left_635) ((n_636 - 1))) : Int) ∧ ((itD (left_635) ((n_636 - 1))) : Int) < 2 ^ 64)) <| bnd ((((it656 + 1) * (itD (left_635) ((n_636 - 1)))) + n_636)) fun low_659 => grd (-(2 ^ 62) ≤ n_636 ∧ n_636 < 2 ^ 62) <| Rx.bind (mapA (rng (0) (Int.toNat (n_636))) [] (fun x => noEr (F__smooth_c2 (above_634) (left_635) (n_636) (shift_637) (it656) (low_659) x))) fun v667 => grd ((rows_653).length ≤ 1000000) <| bnd ((rows_653) ++ [v667]) fun y737 => .ok (y737)

def F__smooth_r1 (rows_745 : (List (List Int))) : Rx (List (List Int)) :=
  .ok (rows_745)

def F__smooth (above' : (List Int)) (left' : (List Int)) (corner' : Int) (top' : Int) : Rx (List (List Int)) :=
  bnd ((((above') : (List Int)).length : Int)) fun n_621 => Rx.bind (F__mean_shift n_621) fun v622 => grd (-(2 ^ 62) ≤ n_621 ∧ n_621 < 2 ^ 62) <| Rx.bind (forS (rng (0) (Int.toNat (n_621))) (([] : (List (List Int)))) (fun s x => F__smooth_b1 (above') (left') (n_621) (v622) s x)) fun s => F__smooth_r1  s

def F__nearest_of (side' : Int) (sample' : Int) (corner' : Int) : Rx Int :=
  bnd ((if (sample' - corner') < 0 then -(sample' - corner') else (sample' - corner'))) fun to_side_746 => bnd ((if (side' - corner') < 0 then -(side' - corner') else (side' - corner'))) fun to_sample_747 => bnd ((if ((side' + sample') - (2 * corner')) < 0 then -((side' + sample') - (2 * corner')) else ((side' + sample') - (2 * corner')))) fun to_corner_748 => (if to_side_746 ≤ to_sample_747 then (if to_side_746 ≤ to_corner_748 then .ok (side') else .ok ((if to_sample_747 ≤ to_corner_748 then sample' else corner'))) else .ok ((if to_sample_747 ≤ to_corner_748 then sample' else corner')))

def F__nearest_c2 (corner_800 : Int) (side_801 : Int) (it848 : Int) : Rx Int :=
  Rx.bind (F__nearest_of side_801 it848 corner_800) fun v849 => .ok v849

def F__nearest_c1 (above_757 : (List Int)) (corner_758 : Int) (it799 : Int) : Rx (List Int) :=
  Rx.bind (mapA (above_757) [] (fun x => noEr (F__nearest_c2 (corner_758) (it799) x))) fun v802 => .ok v802

def F__nearest (above' : (List Int)) (left' : (List Int)) (corner' : Int) (top' : Int) : Rx (List (List Int)) :=
  Rx.bind (mapA (left') [] (fun x => noEr (F__nearest_c1 (above') (corner') x))) fun v759 => .ok (v759)

def F_clip (value' : Int) (low' : Int) (high' : Int) : Rx Int :=
  .ok ((if high' < (if low' > value' then low' else value') then high' else (if low' > value' then low' else value')))

def F__slope_c2 (corner_934 : Int) (top_935 : Int) (side_936 : Int) (it983 : Int) : Rx Int :=
  Rx.bind (F_clip (((side_936 + it983) - corner_934)) 0 top_935) fun v984 => .ok v984

def F__slope_c1 (above_890 : (List Int)) (corner_891 : Int) (top_892 : Int) (it933 : Int) : Rx (List Int) :=
  Rx.bind (mapA (above_890) [] (fun x => noEr (F__slope_c2 (corner_891) (top_892) (it933) x))) fun v937 => .ok v937

def F__slope (above' : (List Int)) (left' : (List Int)) (corner' : Int) (top' : Int) : Rx (List (List Int)) :=
  Rx.bind (mapA (left') [] (fun x => noEr (F__slope_c1 (above') (corner') (top') x))) fun v893 => .ok (v893)

def F__means_c1 (samples_1026 : (List Int)) (it1055 : Int) : Rx Int :=
  grd (-((samples_1026).length : Int) ≤ (it1055 - 1) ∧ (it1055 - 1) < ((samples_1026).length : Int)) <| grd (-((samples_1026).length : Int) ≤ it1055 ∧ it1055 < ((samples_1026).length : Int)) <| grd (-((samples_1026).length : Int) ≤ (it1055 + 1) ∧ (it1055 + 1) < ((samples_1026).length : Int)) <| .ok ((((((itD (samples_1026) ((it1055 - 1))) + (2 * (itD (samples_1026) (it1055)))) + (itD (samples_1026) ((it1055 + 1)))) + 2) / 4))

def F__means (samples' : (List Int)) : Rx (List Int) :=
  grd (-(2 ^ 62) ≤ (1 : Int) ∧ (1 : Int) < 2 ^ 62 ∧ -(2 ^ 62) ≤ (((((samples') : (List Int)).length : Int) - 1) : Int) ∧ (((((samples') : (List Int)).length : Int) - 1) : Int) < 2 ^ 62) <| Rx.bind (mapA (rng (1) (Int.toNat (((((samples') : (List Int)).length : Int) - 1) - 1))) [] (fun x => noEr (F__means_c1 (samples') x))) fun v1027 => .ok (v1027)

def F__down_right_c1 (n_1127 : Int) (means_1128 : (List Int)) (it1159 : Int) : Rx (List Int) :=
  .ok (cutL (means_1128) (some (((n_1127 - 1) - it1159))) (some ((((2 * n_1127) - 1) - it1159))))

def F__down_right (above' : (List Int)) (left' : (List Int)) (corner' : Int) (top' : Int) : Rx (List (List Int)) :=
  bnd ((((above') : (List Int)).length : Int)) fun n_1077 => grd (((left').reverse).length + ([corner']).length ≤ 1000000) <| grd ((((left').reverse) ++ ([corner'])).length + (above').length ≤ 1000000) <| Rx.bind (F__means ((((left').reverse) ++ ([corner'])) ++ (above'))) fun v1117 => grd (-(2 ^ 62) ≤ n_1077 ∧ n_1077 < 2 ^ 62) <| Rx.bind (mapA (rng (0) (Int.toNat (n_1077))) [] (fun x => noEr (F__down_right_c1 (n_1077) (v1117) x))) fun v1129 => .ok (v1129)

def F__down_left_c1 (n_1232 : Int) (means_1233 : (List Int)) (it1264 : Int) : Rx (List Int) :=
  .ok (cutL (means_1233) (some (it1264)) (some ((it1264 + n_1232))))

def F__down_left (above' : (List Int)) (left' : (List Int)) (corner' : Int) (top' : Int) : Rx (List (List Int)) :=
  bnd ((((above') : (List Int)).length : Int)) fun n_1191 => grd (-((above').length : Int) ≤ (n_1191 - 1) ∧ (n_1191 - 1) < ((above').length : Int)) <| grd (-(2 ^ 63) ≤ ((n_1191 + 1) : Int) ∧ ((n_1191 + 1) : Int) < 2 ^ 63 ∧ ([(itD (above') ((n_1191 - 1)))]).length * Int.toNat ((n_1191 + 1)) ≤ 1000000) <| grd ((above').length + (repL ([(itD (above') ((n_1191 - 1)))]) ((n_1191 + 1))).length ≤ 1000000) <| Rx.bind (F__means ((above') ++ (repL ([(itD (above') ((n_1191 - 1)))]) ((n_1191 + 1))))) fun v1222 => grd (-(2 ^ 62) ≤ n_1191 ∧ n_1191 < 2 ^ 62) <| Rx.bind (mapA (rng (0) (Int.toNat (n_1191))) [] (fun x => noEr (F__down_left_c1 (n_1191) (v1222) x))) fun v1234 => .ok (v1234)

def F_predict_area (above' : (List Int)) (left' : (List Int)) (corner' : Int) (mode' : Int) (top' : Int) : Rx (List (List Int)) :=
  (if 0 ≤ mode' then (if mode' < 8 then grd ((0 : Int) ≤ mode' ∧ mode' < 8) <| (if (mode' : Int) = 0 then Rx.bind (F__average (above') (left') corner' top') fun v1300 => .ok (v1300) else (if (mode' : Int) = 1 then Rx.bind (F__vertical (above') (left') corner' top') fun v1320 => .ok (v1320) else (if (mode' : Int) = 2 then Rx.bind (F__horizontal (above') (left') corner' top') fun v1340 => .ok (v1340) else (if (mode' : Int) = 3 then Rx.bind (F__smooth (above') (left') corner' top') fun v1360 => .ok (v1360) else (if (mode' : Int) = 4 then Rx.bind (F__nearest (above') (left') corner' top') fun v1380 => .ok (v1380) else (if (mode' : Int) = 5 then Rx.bind (F__slope (above') (left') corner' top') fun v1400 => .ok (v1400) else (if (mode' : Int) = 6 then Rx.bind (F__down_right (above') (left') corner' top') fun v1420 => .ok (v1420) else Rx.bind (F__down_left (above') (left') corner' top') fun v1440 => .ok (v1440)))))))) else .er 1) else .er 1)

def F__law_refused (around' : ((List Int) × (List Int) × Int)) (mode' : Int) (top' : Int) : Rx Bool :=
  tryR (F_predict_area (around'.1) (around'.2.1) around'.2.2 mode' top') [1] (fun v1471 => .ok (false)) (fun _ => .ok (true))

def F__law_cell (script' : (List Int)) (k' : Int) : Rx Int :=
  (if k' < (((script') : (List Int)).length : Int) then grd (-((script').length : Int) ≤ k' ∧ k' < ((script').length : Int)) <| .ok ((itD (script') (k'))) else .ok (0))

def F__law_nearest (a' : Int) (b' : Int) (corner' : Int) : Rx Int :=
  bnd (((a' + b') - corner')) fun target_1497 => grd (([(if (target_1497 - a') < 0 then -(target_1497 - a') else (target_1497 - a')), (if (target_1497 - b') < 0 then -(target_1497 - b') else (target_1497 - b')), (if (target_1497 - corner') < 0 then -(target_1497 - corner') else (target_1497 - corner'))] : List Int) ≠ []) <| grd (((minL ([(if (target_1497 - a') < 0 then -(target_1497 - a') else (target_1497 - a')), (if (target_1497 - b') < 0 then -(target_1497 - b') else (target_1497 - b')), (if (target_1497 - corner') < 0 then -(target_1497 - corner') else (target_1497 - corner'))])) : Int) ∈ ([(if (target_1497 - a') < 0 then -(target_1497 - a') else (target_1497 - a')), (if (target_1497 - b') < 0 then -(target_1497 - b') else (target_1497 - b')), (if (target_1497 - corner') < 0 then -(target_1497 - corner') else (target_1497 - corner'))] : List Int)) <| grd (-(([a', b', corner']).length : Int) ≤ (idxL ([(if (target_1497 - a') < 0 then -(target_1497 - a') else (target_1497 - a')), (if (target_1497 - b') < 0 then -(target_1497 - b') else (target_1497 - b')), (if (target_1497 - corner') < 0 then -(target_1497 - corner') else (target_1497 - corner'))]) ((minL ([(if (target_1497 - a') < 0 then -(target_1497 - a') else (target_1497 - a')), (if (target_1497 - b') < 0 then -(target_1497 - b') else (target_1497 - b')), (if (target_1497 - corner') < 0 then -(target_1497 - corner') else (target_1497 - corner'))])))) ∧ (idxL ([(if (target_1497 - a') < 0 then -(target_1497 - a') else (target_1497 - a')), (if (target_1497 - b') < 0 then -(target_1497 - b') else (target_1497 - b')), (if (target_1497 - corner') < 0 then -(target_1497 - corner') else (target_1497 - corner'))]) ((minL ([(if (target_1497 - a') < 0 then -(target_1497 - a') else (target_1497 - a')), (if (target_1497 - b') < 0 then -(target_1497 - b') else (target_1497 - b')), (if (target_1497 - corner') < 0 then -(target_1497 - corner') else (target_1497 - corner'))])))) < (([a', b', corner']).length : Int)) <| .ok ((itD ([a', b', corner']) ((idxL ([(if (target_1497 - a') < 0 then -(target_1497 - a') else (target_1497 - a')), (if (target_1497 - b') < 0 then -(target_1497 - b') else (target_1497 - b')), (if (target_1497 - corner') < 0 then -(target_1497 - corner') else (target_1497 - corner'))]) ((minL ([(if (target_1497 - a') < 0 then -(target_1497 - a') else (target_1497 - a')), (if (target_1497 - b') < 0 then -(target_1497 - b') else (target_1497 - b')), (if (target_1497 - corner') < 0 then -(target_1497 - corner') else (target_1497 - corner'))])))))))

def F__law_sample_c1 (left_1561 : (List Int)) (n_1562 : Int) (it1591 : Int) : Rx Int :=
  grd (-((left_1561).length : Int) ≤ ((n_1562 - 1) - it1591) ∧ ((n_1562 - 1) - it1591) < ((left_1561).length : Int)) <| .ok ((itD (left_1561) (((n_1562 - 1) - it1591))))

def F__law_sample_c2 (i_1645 : Int) (j_1646 : Int) (n_1647 : Int) (it1676 : Int) : Rx Int :=
  .ok ((if ((i_1645 + j_1646) + it1676) < (n_1647 - 1) then ((i_1645 + j_1646) + it1676) else (n_1647 - 1)))

def F__law_sample (above' : (List Int)) (left' : (List Int)) (corner' : Int) (mode' : Int) (i' : Int) (j' : Int) (top' : Int) : Rx Int :=
  bnd ((((above') : (List Int)).length : Int)) fun n_1520 => grd (-(([3, 4]).length : Int) ≤ (if decide ((n_1520 : Int) = 8) = true then 1 else 0) ∧ (if decide ((n_1520 : Int) = 8) = true then 1 else 0) < (([3, 4]).length : Int)) <| bnd ((itD ([3, 4]) ((if decide ((n_1520 : Int) = 8) = true then 1 else 0)))) fun shift_1531 => (if (mode' : Int) = 0 then grd ((0 : Int) ≤ shift_1531) <| .ok (((((List.sum (above')) + (List.sum (left'))) + n_1520) / 2 ^ Int.toNat (shift_1531))) else (if (mode' : Int) = 1 then grd (-((above').length : Int) ≤ i' ∧ i' < ((above').length : Int)) <| .ok ((itD (above') (i'))) else (if (mode' : Int) = 2 then grd (-((left').length : Int) ≤ j' ∧ j' < ((left').length : Int)) <| .ok ((itD (left') (j'))) else (if (mode' : Int) = 3 then grd (-((above').length : Int) ≤ i' ∧ i' < ((above').length : Int)) <| grd ((-(2 ^ 64) < (((n_1520 - 1) - j') : Int) ∧ (((n_1520 - 1) - j') : Int) < 2 ^ 64) ∨ (-(2 ^ 64) < ((itD (above') (i')) : Int) ∧ ((itD (above') (i')) : Int) < 2 ^ 64)) <| grd (-((left').length : Int) ≤ (n_1520 - 1) ∧ (n_1520 - 1) < ((left').length : Int)) <| grd ((-(2 ^ 64) < ((j' + 1) : Int) ∧ ((j' + 1) : Int) < 2 ^ 64) ∨ (-(2 ^ 64) < ((itD (left') ((n_1520 - 1))) : Int) ∧ ((itD (left') ((n_1520 - 1))) : Int) < 2 ^ 64)) <| grd (-((left').length : Int) ≤ j' ∧ j' < ((left').length : Int)) <| grd ((-(2 ^ 64) < (((n_1520 - 1) - i') : Int) ∧ (((n_1520 - 1) - i') : Int) < 2 ^ 64) ∨ (-(2 ^ 64) < ((itD (left') (j')) : Int) ∧ ((itD (left') (j')) : Int) < 2 ^ 64)) <| grd (-((above').length : Int) ≤ (n_1520 - 1) ∧ (n_1520 - 1) < ((above').length : Int)) <| grd ((-(2 ^ 64) < ((i' + 1) : Int) ∧ ((i' + 1) : Int) < 2 ^ 64) ∨ (-(2 ^ 64) < ((itD (above') ((n_1520 - 1))) : Int) ∧ ((itD (above') ((n_1520 - 1))) : Int) < 2 ^ 64)) <| bnd (((((((n_1520 - 1) - j') * (itD (above') (i'))) + ((j' + 1) * (itD (left') ((n_1520 - 1))))) + (((n_1520 - 1) - i') * (itD (left') (j')))) + ((i' + 1) * (itD (above') ((n_1520 - 1)))))) fun total_1547 => grd ((0 : Int) ≤ shift_1531) <| .ok (((total_1547 + n_1520) / 2 ^ Int.toNat (shift_1531))) else (if (mode' : Int) = 4 then grd (-((left').length : Int) ≤ j' ∧ j' < ((left').length : Int)) <| grd (-((above').length : Int) ≤ i' ∧ i' < ((above').length : Int)) <| Rx.bind (F__law_nearest ((itD (left') (j'))) ((itD (above') (i'))) corner') fun v1552 => .ok (v1552) else (if (mode' : Int) = 5 then grd (-((left').length : Int) ≤ j' ∧ j' < ((left').length : Int)) <| grd (-((above').length : Int) ≤ i' ∧ i' < ((above').length : Int)) <| .ok ((if (if (((itD (left') (j')) + (itD (above') (i'))) - corner') > 0 then (((itD (left') (j')) + (itD (above') (i'))) - corner') else 0) < top' then (if (((itD (left') (j')) + (itD (above') (i'))) - corner') > 0 then (((itD (left') (j')) + (itD (above') (i'))) - corner') else 0) else top')) else (if (mode' : Int) = 6 then grd (-(2 ^ 62) ≤ n_1520 ∧ n_1520 < 2 ^ 62) <| Rx.bind (mapA (rng (0) (Int.toNat (n_1520))) [] (fun x => noEr (F__law_sample_c1 (left') (n_1520) x))) fun v1563 => grd ((v1563).length + ([corner']).length ≤ 1000000) <| grd (((v1563) ++ ([corner'])).length + (above').length ≤ 1000000) <| bnd (((n_1520 + i') - j')) fun k_1641 => grd (-((((v1563) ++ ([corner'])) ++ (above')).length : Int) ≤ (k_1641 - 1) ∧ (k_1641 - 1) < ((((v1563) ++ ([corner'])) ++ (above')).length : Int)) <| grd (-((((v1563) ++ ([corner'])) ++ (above')).length : Int) ≤ k_1641 ∧ k_1641 < ((((v1563) ++ ([corner'])) ++ (above')).length : Int)) <| grd (-((((v1563) ++ ([corner'])) ++ (above')).length : Int) ≤ (k_1641 + 1) ∧ (k_1641 + 1) < ((((v1563) ++ ([corner'])) ++ (above')).length : Int)) <| .ok ((((((itD (((v1563) ++ ([corner'])) ++ (above')) ((k_1641 - 1))) + (2 * (itD (((v1563) ++ ([corner'])) ++ (above')) (k_1641)))) + (itD (((v1563) ++ ([corner'])) ++ (above')) ((k_1641 + 1)))) + 2) / 4)) else Rx.bind (mapA (rng (0) (Int.toNat (3))) [] (fun x => noEr (F__law_sample_c2 (i') (j') (n_1520) x))) fun v1648 => grd (-((v1648).length : Int) ≤ 0 ∧ 0 < ((v1648).length : Int)) <| grd (-((above').length : Int) ≤ (itD (v1648) (0)) ∧ (itD (v1648) (0)) < ((above').length : Int)) <| grd (-((v1648).length : Int) ≤ 1 ∧ 1 < ((v1648).length : Int)) <| grd (-((above').length : Int) ≤ (itD (v1648) (1)) ∧ (itD (v1648) (1)) < ((above').length : Int)) <| grd (-((v1648).length : Int) ≤ 2 ∧ 2 < ((v1648).length : Int)) <| grd (-((above').length : Int) ≤ (itD (v1648) (2)) ∧ (itD (v1648) (2)) < ((above').length : Int)) <| .ok ((((((itD (above') ((itD (v1648) (0)))) + (2 * (itD (above') ((itD (v1648) (1)))))) + (itD (above') ((itD (v1648) (2))))) + 2) / 4)))))))))

def F_law_c3 (top_1845 : Int) (kept_1846 : ((List Int) × (List Int) × Int)) (mode_1847 : Int) (j_1848 : Int) (it1885 : Int) : Rx Int :=
  Rx.bind (F__law_sample (kept_1846.1) (kept_1846.2.1) kept_1846.2.2 mode_1847 it1885 j_1848 top_1845) fun v1886 => .ok v1886

def F_law_c2 (top_1805 : Int) (kept_1806 : ((List Int) × (List Int) × Int)) (n_1807 : Int) (mode_1808 : Int) (it1843 : Int) : Rx (List Int) :=
  grd (-(2 ^ 62) ≤ n_1807 ∧ n_1807 < 2 ^ 62) <| Rx.bind (mapA (rng (0) (Int.toNat (n_1807))) [] (fun x => noEr (F_law_c3 (top_1805) (kept_1806) (mode_1808) (it1843) x))) fun v1849 => .ok v1849

def F_law_c4 (it2068 : (List Int)) : Rx (List Int) :=
  .ok it2068

def F_law_b1 (top_1777 : Int) (around_1778 : ((List Int) × (List Int) × Int)) (kept_1779 : ((List Int) × (List Int) × Int)) (n_1780 : Int) (it1803 : Int) : Rx (Lp Unit Bool) :=
  grd (-(2 ^ 62) ≤ n_1780 ∧ n_1780 < 2 ^ 62) <| Rx.bind (mapA (rng (0) (Int.toNat (n_1780))) [] (fun x => noEr (F_law_c2 (top_1777) (kept_1779) (n_1780) (it1803) x))) fun v1809 => Rx.bind (F_predict_area (around_1778.1) (around_1778.2.1) around_1778.2.2 it1803 top_1777) fun v1945 => (if (v1945 : (List (List Int))) = v1809 then (if (around_1778 : ((List Int) × (List Int) × Int)) = kept_1779 then grd (-((v1945).length : Int) ≤ 0 ∧ 0 < ((v1945).length : Int)) <| grd (-(((itD (v1945) (0))).length : Int) ≤ 0 ∧ 0 < (((itD (v1945) (0))).length : Int)) <| bnd (setL (v1945) (0) (setL ((itD (v1945) (0))) (0) ((-1)))) fun y1986 => grd (-((y1986).length : Int) ≤ (-1) ∧ (-1) < ((y1986).length : Int)) <| grd (((itD (y1986) ((-1)))).length ≤ 1000000) <| bnd (setL (y1986) ((-1)) (((itD (y1986) ((-1)))) ++ [3])) fun y2005 => Rx.bind (mapA (v1809) [] (fun x => noEr (F_law_c4  x))) fun v2007 => grd (-((v2007).length : Int) ≤ 0 ∧ 0 < ((v2007).length : Int)) <| grd (-(((itD (v2007) (0))).length : Int) ≤ 0 ∧ 0 < (((itD (v2007) (0))).length : Int)) <| bnd (setL (v2007) (0) (setL ((itD (v2007) (0))) (0) ((-1)))) fun y2127 => grd (-((y2127).length : Int) ≤ (-1) ∧ (-1) < ((y2127).length : Int)) <| grd (((itD (y2127) ((-1)))).length ≤ 1000000) <| bnd (setL (y2127) ((-1)) (((itD (y2127) ((-1)))) ++ [3])) fun y2146 => (if (y2005 : (List (List Int))) = y2146 then (if (around_1778 : ((List Int) × (List Int) × Int)) = kept_1779 then Rx.bind (F_predict_area (around_1778.1) (around_1778.2.1) around_1778.2.2 it1803 top_1777) fun v2154 => (if (v2154 : (List (List Int))) = v1809 then .ok (.go ()) else .ok (.rt (false))) else .ok (.rt (false))) else .ok (.rt (false))) else .ok (.rt (false))) else .ok (.rt (false)))

def F_law_r1 (draws_1781 : (List Int)) (top_1782 : Int) (around_1783 : ((List Int) × (List Int) × Int)) : Rx Bool :=
  grd (-((draws_1781).length : Int) ≤ 1 ∧ 1 < ((draws_1781).length : Int)) <| grd (-((draws_1781).length : Int) ≤ 1 ∧ 1 < ((draws_1781).length : Int)) <| grd (-((draws_1781).length : Int) ≤ 2 ∧ 2 < ((draws_1781).length : Int)) <| grd (-(([(8 + (itD (draws_1781) (1))), ((-1) - (itD (draws_1781) (1)))]).length : Int) ≤ (itD (draws_1781) (2)) ∧ (itD (draws_1781) (2)) < (([(8 + (itD (draws_1781) (1))), ((-1) - (itD (draws_1781) (1)))]).length : Int)) <| Rx.bind (F__law_refused (around_1783) ((itD ([(8 + (itD (draws_1781) (1))), ((-1) - (itD (draws_1781) (1)))]) ((itD (draws_1781) (2))))) top_1782) fun v2199 => .ok (v2199)

def F_law (script' : (List Int)) : Rx Bool :=
  Rx.bind (F__law_cell (script') 0) fun v1701 => Rx.bind (F__law_draws v1701 ([5, 1000, 2])) fun v1711 => grd (-((v1711).length : Int) ≤ 0 ∧ 0 < ((v1711).length : Int)) <| grd ((0 : Int) ≤ (8 + (itD (v1711) (0))) ∧ ((8 + (itD (v1711) (0))) : Int) ≤ 4096 ∧ -(2 ^ 4096) < (1 : Int) ∧ (1 : Int) < 2 ^ 4096) <| bnd (((1 * 2 ^ Int.toNat ((8 + (itD (v1711) (0))))) - 1)) fun top_1722 => Rx.bind (F__law_cell (script') 1) fun v1723 => Rx.bind (F__law_around v1723 top_1722) fun v1724 => bnd ((((v1724.1) : (List Int)).length : Int)) fun n_1776 => Rx.bind (forR (rng (0) (Int.toNat (8))) () (fun s x => F_law_b1 (top_1722) (v1724) ((v1724.1, v1724.2.1, v1724.2.2)) (n_1776)  x)) fun l => l.aft Rx.ok fun s => F_law_r1 (v1711) (top_1722) (v1724) 
theorem cell_gv (s : List Int) (k : Int) (h : 0 ≤ k) : Gv (F__law_cell s k) (fun _ => True) := by
  unfold F__law_cell
  exact Gv.ite (fun c => Gv.grd ⟨by omega, c⟩ (.ok trivial)) fun _ => .ok trivial
def Inb : List Int → List Int → Prop
  | [], [] => True
  | v :: vs, l :: ls => 0 ≤ v ∧ v < l ∧ Inb vs ls
  | _, _ => False
theorem Inb.snoc : ∀ {vs ls : List Int} {y l : Int}, Inb vs ls → 0 ≤ y → y < l → Inb (vs ++ [y]) (ls ++ [l])
  | [], [], _, _, _, h0, h1 => ⟨h0, h1, trivial⟩
  | _ :: _, _ :: _, _, _, h, h0, h1 => ⟨h.1, h.2.1, Inb.snoc h.2.2 h0 h1⟩
  | [], _ :: _, _, _, h, _, _ => h.elim
  | _ :: _, [], _, _, h, _, _ => h.elim
theorem Inb.len : ∀ {vs ls : List Int}, Inb vs ls → vs.length = ls.length
  | [], [], _ => rfl
  | _ :: _, _ :: _, h => congrArg Nat.succ (Inb.len h.2.2)
  | [], _ :: _, h => h.elim
  | _ :: _, [], h => h.elim
theorem Inb.cons {v ls : List Int} {l : Int} (h : Inb v (l :: ls)) : ∃ a r, v = a :: r ∧ 0 ≤ a ∧ a < l ∧ Inb r ls := by
  cases v with
  | nil => exact h.elim
  | cons a r => exact ⟨a, r, rfl, h.1, h.2.1, h.2.2⟩
theorem Inb.nil {v : List Int} (h : Inb v []) : v = [] := by
  cases v with
  | nil => rfl
  | cons a r => exact h.elim
theorem draws_gv (cell : Int) (limits : List Int) (hl : ∀ l ∈ limits, 0 < l ∧ l < 18446744073709551616) (hn : limits.length ≤ 1000000) : Gv (F__law_draws cell limits) (fun v => Inb v limits) := by
  unfold F__law_draws
  refine Gv.bnd fun rest _ => Gv.bnd fun state _ => Gv.bnd fun free _ => Gv.bind (Gv.forS (P := fun i s => Inb s.1 (limits.take i)) ?_ fun i x s hx p => ?_) fun s p => .ok ?_
  · rw [List.take_zero]
    trivial
  · have hb0 := hl x (List.mem_of_getElem? hx)
    have hb : 0 < x ∧ x < 2 ^ 128 := ⟨hb0.1, by omega⟩
    have hlen := p.len
    have hi := get_len hx
    rw [List.length_take] at hlen
    have nx : ∀ y : Int, 0 ≤ y → y < x → Inb (s.1 ++ [y]) (limits.take (i + 1)) := fun y h0 h1 => by
      rw [take_succ_get hx]
      exact p.snoc h0 h1
    unfold F__law_draws_b1
    refine Gv.ite (fun _ => Gv.ite (fun _ => Gv.grd hb.1 (Gv.grd (by omega) (Gv.bnd fun y hy => Gv.grd ⟨hb.1, hb.2⟩ (Gv.bnd fun _ _ => .ok ?_)))) fun _ => Gv.bnd fun _ _ => Gv.bnd fun _ _ => Gv.grd hb.1 (Gv.grd (by omega) (Gv.bnd fun y hy => .ok ?_))) fun _ => Gv.bnd fun _ _ => Gv.bnd fun _ _ => Gv.grd hb.1 (Gv.grd (by omega) (Gv.bnd fun y hy => .ok ?_))
    · subst hy
      exact nx _ (Int.emod_nonneg _ (by omega)) (Int.emod_lt_of_pos _ hb.1)
    · subst hy
      exact nx _ (Int.emod_nonneg _ (by omega)) (Int.emod_lt_of_pos _ hb.1)
    · subst hy
      exact nx _ (Int.emod_nonneg _ (by omega)) (Int.emod_lt_of_pos _ hb.1)
  · rw [List.take_length] at p
    exact p
theorem ixg {xs : List Int} {k : Int} {n : Nat} (e : xs.length = n) (h : -(n : Int) ≤ k ∧ k < n) : -(xs.length : Int) ≤ k ∧ k < xs.length := by
  rw [e]
  exact h
theorem itD_lit {xs : List Int} {a k : Int} (n : Nat) (e : k = (n : Int)) (h : xs[n]? = some a) : itD xs k = a := by
  subst e
  have hl := get_len h
  unfold itD atI ixN
  rw [if_pos (by omega), if_pos (by omega)]
  show (xs[n]?).getD default = a
  rw [h]
  rfl
theorem one_4096 : -(2 ^ 4096) < (1 : Int) ∧ (1 : Int) < 2 ^ 4096 := by
  have h : (0 : Int) < 2 ^ 4095 := Int.pow_pos (by decide)
  have e : (2 : Int) ^ 4096 = 2 ^ 4095 * 2 := Int.pow_succ 2 4095
  generalize (2 : Int) ^ 4095 = z at h e
  generalize (2 : Int) ^ 4096 = y at e ⊢
  omega
theorem top_b {d : Int} (h0 : 0 ≤ d) (h1 : d < 5) : 255 ≤ 1 * 2 ^ Int.toNat (8 + d) - (1 : Int) ∧ 1 * 2 ^ Int.toNat (8 + d) - (1 : Int) ≤ 4095 := by
  have : d = 0 ∨ d = 1 ∨ d = 2 ∨ d = 3 ∨ d = 4 := by omega
  rcases this with rfl | rfl | rfl | rfl | rfl <;> decide
theorem itD_some {α : Type} [Inhabited α] {xs : List α} {k : Int} (h : -(xs.length : Int) ≤ k ∧ k < xs.length) : ∃ j : Nat, xs[j]? = some (itD xs k) := by
  obtain ⟨j, e, hj⟩ := ixN_some h
  refine ⟨j, ?_⟩
  unfold itD atI
  rw [e, List.getElem?_eq_getElem hj]
  show some xs[j] = some ((xs[j]?).getD default)
  rw [List.getElem?_eq_getElem hj] <;> rfl
theorem itD_mem {α : Type} [Inhabited α] {xs : List α} {k : Int} (h : -(xs.length : Int) ≤ k ∧ k < xs.length) : itD xs k ∈ xs := by
  obtain ⟨j, e⟩ := itD_some h
  exact List.mem_of_getElem? e
theorem itD_map {α β : Type} [Inhabited α] [Inhabited β] {xs : List α} {f : α → β} {k : Int} (h : -(xs.length : Int) ≤ k ∧ k < xs.length) : itD (xs.map f) k = f (itD xs k) := by
  obtain ⟨j, e, hj⟩ := ixN_some h
  unfold itD atI
  rw [List.length_map, e]
  show ((xs.map f)[j]?).getD default = f ((xs[j]?).getD default)
  rw [List.getElem?_map, List.getElem?_eq_getElem hj] <;> rfl
theorem itD_nat {α : Type} [Inhabited α] {xs : List α} {k : Int} {j : Nat} (e : k = (j : Int)) (h : j < xs.length) : itD xs k = xs[j] := by
  subst e
  unfold itD atI ixN
  rw [if_pos (by omega), if_pos (by omega)]
  show (xs[j]?).getD default = _
  rw [List.getElem?_eq_getElem h] <;> rfl
theorem setL_mem {α : Type} {xs : List α} {k : Int} {y z : α} (h : z ∈ setL xs k y) : z ∈ xs ∨ z = y := by
  unfold setL at h
  exact List.mem_or_eq_of_mem_set h
theorem setL_len {α : Type} {xs : List α} {k : Int} {y : α} : (setL xs k y).length = xs.length := by
  unfold setL
  rw [List.length_set]
/-- a square by its numbers: row, column -/
def tab (n : Nat) (f : Int → Int → Int) : List (List Int) := (rng 0 n).map fun j => (rng 0 n).map fun i => f j i
theorem rng_at0 {n : Nat} {k : Int} (h0 : 0 ≤ k) (h1 : k < n) : itD (rng 0 n) k = k := by
  obtain ⟨j, rfl⟩ := Int.eq_ofNat_of_zero_le h0
  have hj : j < n := by omega
  rw [itD_nat (j := j) rfl (by rw [rng_len]; exact hj)]
  have := rng_get (lo := 0) hj
  rw [List.getElem?_eq_getElem (by rw [rng_len]; exact hj)] at this
  have := Option.some.inj this
  omega
theorem ixr {n : Nat} {k : Int} (h0 : 0 ≤ k) (h1 : k < n) : -((rng 0 n).length : Int) ≤ k ∧ k < (rng 0 n).length := by
  rw [rng_len]
  omega
theorem tab_at {n : Nat} {f : Int → Int → Int} {j i : Int} (j0 : 0 ≤ j) (j1 : j < n) (i0 : 0 ≤ i) (i1 : i < n) : itD (itD (tab n f) j) i = f j i := by
  unfold tab
  rw [itD_map (ixr j0 j1), itD_map (ixr i0 i1), rng_at0 j0 j1, rng_at0 i0 i1]
theorem tab_len {n : Nat} {f : Int → Int → Int} : (tab n f).length = n := by
  unfold tab
  rw [List.length_map, rng_len]
theorem tab_row {n : Nat} {f : Int → Int → Int} {j : Int} (j0 : 0 ≤ j) (j1 : j < n) : (itD (tab n f) j).length = n := by
  unfold tab
  rw [itD_map (ixr j0 j1), List.length_map, rng_len]
theorem tab_congr {n : Nat} {f g : Int → Int → Int} (h : ∀ j i : Int, 0 ≤ j → j < n → 0 ≤ i → i < n → f j i = g j i) : tab n f = tab n g := by
  unfold tab
  apply List.map_congr_left
  intro (j : Int) hj
  apply List.map_congr_left
  intro (i : Int) hi
  have hj := rng_mem hj
  have hi := rng_mem hi
  exact h j i (by omega) (by omega) (by omega) (by omega)
/-- a list by its numbers -/
theorem list_rng {xs : List Int} {n : Nat} (h : xs.length = n) : xs = (rng 0 n).map fun k => itD xs k := by
  refine List.ext_getElem (by rw [List.length_map, rng_len, h]) fun j h1 h2 => ?_
  rw [List.getElem_map]
  have hj : j < n := by omega
  have e : (rng 0 n)[j]'(by rw [rng_len]; exact hj) = (j : Int) := by
    have := rng_get (lo := 0) hj
    rw [List.getElem?_eq_getElem (by rw [rng_len]; exact hj)] at this
    have := Option.some.inj this
    omega
  rw [e, itD_nat (j := j) rfl h1]
theorem map_rng {α : Type} {xs : List Int} {n : Nat} {g : Int → α} (h : xs.length = n) : xs.map g = (rng 0 n).map fun k => g (itD xs k) := by
  conv => lhs; rw [list_rng h]
  rw [List.map_map]
  rfl
theorem rep_rng {v : Int} {n : Nat} : repL [v] (n : Int) = (rng 0 n).map fun _ => v := by
  unfold repL rng
  rw [List.map_map]
  have : ∀ m : Nat, (List.replicate m [v]).flatten = (List.range m).map fun _ => v := fun m => by
    induction m with
    | zero => rfl
    | succ m ih => rw [List.replicate_succ', List.flatten_append, ih, List.range_succ, List.map_append]; rfl
  exact this n
theorem cut_rng {xs : List Int} {a b : Int} {n : Nat} (h0 : 0 ≤ a) (hb : b = a + n) (h1 : b ≤ xs.length) : cutL xs (some a) (some b) = (rng 0 n).map fun i => itD xs (a + i) := by
  have e1 : HT.sIx xs.length 0 (some a) = a.toNat := by
    simp only [HT.sIx]
    split <;> omega
  have e2 : HT.sIx xs.length xs.length (some b) = b.toNat := by
    simp only [HT.sIx]
    split <;> omega
  unfold cutL
  rw [e1, e2]
  refine List.ext_getElem (by rw [List.length_take, List.length_drop, List.length_map, rng_len]; omega) fun j h2 h3 => ?_
  rw [List.length_map, rng_len] at h3
  rw [List.getElem_take, List.getElem_drop, List.getElem_map]
  have e : (rng 0 n)[j]'(by rw [rng_len]; exact h3) = (j : Int) := by
    have := rng_get (lo := 0) h3
    rw [List.getElem?_eq_getElem (by rw [rng_len]; exact h3)] at this
    have := Option.some.inj this
    omega
  rw [e, itD_nat (j := a.toNat + j) (by omega) (by omega)]
/-! ### the samples around an area -/
structure Arnd (n : Nat) (lo hi : Int) (above left : List Int) (corner : Int) : Prop where
  la : above.length = n
  ll : left.length = n
  ba : ∀ x ∈ above, lo ≤ x ∧ x ≤ hi
  bl : ∀ x ∈ left, lo ≤ x ∧ x ≤ hi
  bc : lo ≤ corner ∧ corner ≤ hi
def eR (above left : List Int) (corner : Int) : List Int := left.reverse ++ [corner] ++ above
def eL (above : List Int) (n : Nat) : List Int := above ++ repL [itD above ((n : Int) - 1)] ((n : Int) + 1)
def mean3 (xs : List Int) (k : Int) : Int := (((itD xs (k - 1) + 2 * itD xs k) + itD xs (k + 1)) + 2) / 4
def near (side sample corner : Int) : Int :=
  if (if sample - corner < 0 then -(sample - corner) else sample - corner) ≤ (if side - corner < 0 then -(side - corner) else side - corner) ∧ (if sample - corner < 0 then -(sample - corner) else sample - corner) ≤ (if side + sample - 2 * corner < 0 then -(side + sample - 2 * corner) else side + sample - 2 * corner) then side
  else if (if side - corner < 0 then -(side - corner) else side - corner) ≤ (if side + sample - 2 * corner < 0 then -(side + sample - 2 * corner) else side + sample - 2 * corner) then sample else corner
def clp (v lo hi : Int) : Int := if hi < (if lo > v then lo else v) then hi else (if lo > v then lo else v)
/-- the number in row j, column i -/
def ps (n : Nat) (above left : List Int) (corner mode top : Int) (j i : Int) : Int :=
  if mode = 0 then (above.sum + left.sum + n) / (2 * n)
  else if mode = 1 then itD above i
  else if mode = 2 then itD left j
  else if mode = 3 then (((((n : Int) - 1 - j) * itD above i + ((j + 1) * itD left ((n : Int) - 1) + n)) + ((n : Int) - 1 - i) * itD left j) + (i + 1) * itD above ((n : Int) - 1)) / (2 * n)
  else if mode = 4 then near (itD left j) (itD above i) corner
  else if mode = 5 then clp (itD left j + itD above i - corner) 0 top
  else if mode = 6 then mean3 (eR above left corner) ((n : Int) - j + i)
  else mean3 (eL above n) (i + j + 1)
section
variable {n : Nat} {lo hi : Int} {above left : List Int} {corner top : Int}
theorem shift_ok (hn : n = 4 ∨ n = 8) : F__mean_shift (n : Int) = .ok (if (n : Int) = 8 then 4 else 3) ∧ (0 : Int) ≤ (if (n : Int) = 8 then 4 else 3) ∧ (2 : Int) ^ Int.toNat (if (n : Int) = 8 then 4 else 3) = 2 * n := by
  rcases hn with rfl | rfl
  · exact ⟨rfl, by decide, by decide⟩
  · exact ⟨rfl, by decide, by decide⟩
theorem Arnd.at_a (A : Arnd n lo hi above left corner) {k : Int} (h0 : 0 ≤ k) (h1 : k < n) : (-(above.length : Int) ≤ k ∧ k < above.length) ∧ lo ≤ itD above k ∧ itD above k ≤ hi := by
  have h : -(above.length : Int) ≤ k ∧ k < above.length := by rw [A.la]; omega
  exact ⟨h, A.ba _ (itD_mem h)⟩
theorem Arnd.at_l (A : Arnd n lo hi above left corner) {k : Int} (h0 : 0 ≤ k) (h1 : k < n) : (-(left.length : Int) ≤ k ∧ k < left.length) ∧ lo ≤ itD left k ∧ itD left k ≤ hi := by
  have h : -(left.length : Int) ≤ k ∧ k < left.length := by rw [A.ll]; omega
  exact ⟨h, A.bl _ (itD_mem h)⟩
theorem eR_len (A : Arnd n lo hi above left corner) : (eR above left corner).length = 2 * n + 1 := by
  unfold eR
  rw [List.length_append, List.length_append, List.length_reverse, A.la, A.ll, List.length_singleton]
  omega
theorem eL_len (A : Arnd n lo hi above left corner) : (eL above n).length = 2 * n + 1 := by
  unfold eL
  rw [List.length_append, A.la, repL_len, List.length_singleton]
  omega
theorem eR_b (A : Arnd n lo hi above left corner) : ∀ x ∈ eR above left corner, lo ≤ x ∧ x ≤ hi := fun x hx => by
  unfold eR at hx
  rcases List.mem_append.mp hx with h | h
  · rcases List.mem_append.mp h with h | h
    · exact A.bl x (List.mem_reverse.mp h)
    · rw [List.mem_singleton.mp h]
      exact A.bc
  · exact A.ba x h
theorem eL_b (A : Arnd n lo hi above left corner) (hn : 0 < n) : ∀ x ∈ eL above n, lo ≤ x ∧ x ≤ hi := fun x hx => by
  unfold eL at hx
  rcases List.mem_append.mp hx with h | h
  · exact A.ba x h
  · unfold repL at h
    obtain ⟨l, hl, hx⟩ := List.mem_flatten.mp h
    rw [(List.mem_replicate.mp hl).2] at hx
    rw [List.mem_singleton.mp hx]
    exact (A.at_a (by omega) (by omega)).2
theorem means_ok {xs : List Int} {m : Nat} (h : xs.length = m + 2) (hm : m ≤ 1000) : F__means xs = .ok ((rng 1 m).map fun k => mean3 xs k) := by
  unfold F__means
  have e : Int.toNat ((xs.length : Int) - 1 - 1) = m := by omega
  rw [grd_pos ⟨by decide, by decide, by omega, by omega⟩, e, mapA_pure0 (g := fun k => mean3 xs k) (fun k hk => ?_) (by rw [rng_len]; omega)]
  · rfl
  · have := rng_mem hk
    unfold F__means_c1
    rw [grd_pos (by omega), grd_pos (by omega), grd_pos (by omega)]
    rfl
theorem means_at {xs : List Int} {m : Nat} {k : Int} (h0 : 0 ≤ k) (h1 : k < m) : itD ((rng 1 m).map fun k => mean3 xs k) k = mean3 xs (k + 1) := by
  obtain ⟨j, rfl⟩ := Int.eq_ofNat_of_zero_le h0
  have hj : j < m := by omega
  rw [itD_nat (j := j) rfl (by rw [List.length_map, rng_len]; exact hj), List.getElem_map]
  have := rng_get (lo := 1) hj
  rw [List.getElem?_eq_getElem (by rw [rng_len]; exact hj)] at this
  rw [Option.some.inj this, Int.add_comm]
theorem sum_b : ∀ {xs : List Int}, (∀ x ∈ xs, lo ≤ x ∧ x ≤ hi) → (xs.length : Int) * lo ≤ xs.sum ∧ xs.sum ≤ (xs.length : Int) * hi
  | [], _ => by simp
  | x :: xs, h => by
    have h1 := h x List.mem_cons_self
    have h2 := sum_b fun y hy => h y (List.mem_cons_of_mem _ hy)
    rw [List.sum_cons, List.length_cons]
    have e1 : ((xs.length + 1 : Nat) : Int) * lo = (xs.length : Int) * lo + lo := by rw [Int.natCast_add, Int.add_mul]; simp
    have e2 : ((xs.length + 1 : Nat) : Int) * hi = (xs.length : Int) * hi + hi := by rw [Int.natCast_add, Int.add_mul]; simp
    omega
theorem mode0 (A : Arnd n lo hi above left corner) (hn : n = 4 ∨ n = 8) : F__average above left corner top = .ok (tab n fun _ _ => (above.sum + left.sum + n) / (2 * n)) := by
  obtain ⟨s1, s2, s3⟩ := shift_ok hn
  unfold F__average
  rw [bnd_eq, A.la, s1, bind_ok, grd_pos s2, bnd_eq, s3, mapA_pure0 (g := fun _ => repL [(above.sum + left.sum + n) / (2 * n)] (n : Int)) (fun x _ => ?_) (by rw [A.ll]; omega), bind_ok, map_rng A.ll]
  · unfold tab
    rw [rep_rng]
  · unfold F__average_c1
    rw [grd_pos ⟨by omega, by omega, by rw [List.length_singleton]; omega⟩]
    rfl
theorem mode1 (A : Arnd n lo hi above left corner) (hn : n = 4 ∨ n = 8) : F__vertical above left corner top = .ok (tab n fun _ i => itD above i) := by
  unfold F__vertical
  rw [mapA_pure0 (f := fun x => noEr (F__vertical_c1 above x)) (g := fun _ => above) (fun x _ => rfl) (by rw [A.ll]; omega), bind_ok, map_rng A.ll]
  show Rx.ok ((rng 0 n).map fun _ => above) = Rx.ok ((rng 0 n).map fun _ => (rng 0 n).map fun i => itD above i)
  rw [← list_rng A.la]
theorem mode2 (A : Arnd n lo hi above left corner) (hn : n = 4 ∨ n = 8) : F__horizontal above left corner top = .ok (tab n fun j _ => itD left j) := by
  unfold F__horizontal
  rw [mapA_pure0 (g := fun x => repL [x] (n : Int)) (fun x _ => ?_) (by rw [A.ll]; omega), bind_ok, map_rng A.ll]
  · unfold tab
    congr 1
    refine List.map_congr_left fun j _ => ?_
    rw [rep_rng]
  · unfold F__horizontal_c1
    rw [A.la, grd_pos ⟨by omega, by omega, by rw [List.length_singleton]; omega⟩]
    rfl
theorem snoc_rows {f : Int → List Int} {n : Nat} (m : Nat) : (rng 0 (m + 1)).map f = (rng 0 m).map f ++ [f m] := by
  unfold rng
  rw [List.range_succ, List.map_append, List.map_append]
  simp
theorem mode3 (A : Arnd n lo hi above left corner) (hn : n = 4 ∨ n = 8) : F__smooth above left corner top = .ok (tab n fun j i => (((((n : Int) - 1 - j) * itD above i + ((j + 1) * itD left ((n : Int) - 1) + n)) + ((n : Int) - 1 - i) * itD left j) + (i + 1) * itD above ((n : Int) - 1)) / (2 * n)) := by
  obtain ⟨s1, s2, s3⟩ := shift_ok hn
  refine Gv.get ?_
  unfold F__smooth
  have hb : n ≤ 8 := by omega
  refine Gv.bnd fun nn hnn => ?_
  rw [A.la] at hnn
  subst hnn
  refine Gv.bind_eq s1 (Gv.grd ⟨by omega, by omega⟩ (Gv.bind (Gv.forS (P := fun m rows => rows = (rng 0 m).map fun j => (rng 0 n).map fun i => (((((n : Int) - 1 - j) * itD above i + ((j + 1) * itD left ((n : Int) - 1) + n)) + ((n : Int) - 1 - i) * itD left j) + (i + 1) * itD above ((n : Int) - 1)) / (2 * n)) rfl fun m j rows hj hr => ?_) fun rows hr => .ok ?_))
  · obtain ⟨hj, hm⟩ := rng_at hj
    have hj : j = (m : Int) := by omega
    have hm : m < n := by omega
    subst hr
    unfold F__smooth_b1
    obtain ⟨l1, _⟩ := A.at_l (k := (n : Int) - 1) (by omega) (by omega)
    obtain ⟨l2, _⟩ := A.at_l (k := j) (by omega) (by omega)
    obtain ⟨a1, _⟩ := A.at_a (k := (n : Int) - 1) (by omega) (by omega)
    refine Gv.grd l1 (Gv.grd (.inl ⟨by omega, by omega⟩) (Gv.bnd fun low hlow => Gv.grd ⟨by omega, by omega⟩ (Gv.bind_eq (mapA_pure0 (g := fun i => (((((n : Int) - 1 - j) * itD above i + low) + ((n : Int) - 1 - i) * itD left j) + (i + 1) * itD above ((n : Int) - 1)) / (2 * n)) (fun i hi => ?_) (by rw [rng_len]; omega)) (Gv.grd (by rw [List.length_map, rng_len]; omega) (Gv.bnd fun y hy => .ok ?_)))))
    · have hi := rng_mem hi
      obtain ⟨a2, _⟩ := A.at_a (k := i) (by omega) (by omega)
      unfold F__smooth_c2
      rw [grd_pos a2, grd_pos (.inl ⟨by omega, by omega⟩), grd_pos l2, grd_pos (.inl ⟨by omega, by omega⟩), grd_pos a1, grd_pos (.inl ⟨by omega, by omega⟩), grd_pos s2, s3]
      rfl
    · rw [hy, snoc_rows (n := n), hlow, hj]
      rfl
  · rw [hr, rng_len]
    rfl
theorem nearest_ok (a b c : Int) : F__nearest_of a b c = .ok (near a b c) := by
  unfold F__nearest_of near
  rw [bnd_eq, bnd_eq, bnd_eq]
  generalize (if b - c < 0 then -(b - c) else b - c) = x
  generalize (if a - c < 0 then -(a - c) else a - c) = y
  generalize (if a + b - 2 * c < 0 then -(a + b - 2 * c) else a + b - 2 * c) = z
  by_cases h1 : x ≤ y
  · by_cases h2 : x ≤ z
    · rw [if_pos h1, if_pos h2, if_pos ⟨h1, h2⟩]
    · rw [if_pos h1, if_neg h2, if_neg (show ¬ (x ≤ y ∧ x ≤ z) from fun q => h2 q.2)]
  · rw [if_neg h1, if_neg (show ¬ (x ≤ y ∧ x ≤ z) from fun q => h1 q.1)]
theorem two_maps {f : Int → Int → Int} (A : Arnd n lo hi above left corner) : (left.map fun x => above.map fun y => f x y) = tab n fun j i => f (itD left j) (itD above i) := by
  rw [map_rng A.ll]
  unfold tab
  refine List.map_congr_left fun j _ => ?_
  rw [map_rng A.la]
theorem mode4 (A : Arnd n lo hi above left corner) (hn : n = 4 ∨ n = 8) : F__nearest above left corner top = .ok (tab n fun j i => near (itD left j) (itD above i) corner) := by
  unfold F__nearest
  rw [mapA_pure0 (g := fun x => above.map fun y => near x y corner) (fun x _ => ?_) (by rw [A.ll]; omega), bind_ok, two_maps (f := fun x y => near x y corner) A]
  unfold F__nearest_c1
  rw [mapA_pure0 (g := fun y => near x y corner) (fun y _ => ?_) (by rw [A.la]; omega)]
  · rfl
  · unfold F__nearest_c2
    rw [nearest_ok]
    rfl
theorem mode5 (A : Arnd n lo hi above left corner) (hn : n = 4 ∨ n = 8) : F__slope above left corner top = .ok (tab n fun j i => clp (itD left j + itD above i - corner) 0 top) := by
  unfold F__slope
  rw [mapA_pure0 (g := fun x => above.map fun y => clp (x + y - corner) 0 top) (fun x _ => ?_) (by rw [A.ll]; omega), bind_ok, two_maps (f := fun x y => clp (x + y - corner) 0 top) A]
  unfold F__slope_c1
  rw [mapA_pure0 (g := fun y => clp (x + y - corner) 0 top) (fun y _ => ?_) (by rw [A.la]; omega)]
  · rfl
  · unfold F__slope_c2 F_clip clp
    rfl
theorem mode6 (A : Arnd n lo hi above left corner) (hn : n = 4 ∨ n = 8) : F__down_right above left corner top = .ok (tab n fun j i => mean3 (eR above left corner) ((n : Int) - j + i)) := by
  unfold F__down_right
  rw [bnd_eq, A.la, grd_pos (by rw [List.length_reverse, A.ll, List.length_singleton]; omega), grd_pos (by rw [List.length_append, List.length_reverse, A.ll, List.length_singleton]; omega)]
  have e := means_ok (xs := eR above left corner) (m := 2 * n - 1) (by rw [eR_len A]; omega) (by omega)
  unfold eR at e
  rw [e, bind_ok, grd_pos ⟨by omega, by omega⟩]
  rw [mapA_pure0 (f := fun x => noEr (F__down_right_c1 (n : Int) ((rng 1 (2 * n - 1)).map fun k => mean3 (left.reverse ++ [corner] ++ above) k) x)) (g := fun j => cutL ((rng 1 (2 * n - 1)).map fun k => mean3 (eR above left corner) k) (some ((n : Int) - 1 - j)) (some (2 * (n : Int) - 1 - j))) (fun j _ => rfl) (by rw [rng_len]; omega), bind_ok]
  unfold tab
  rw [Int.toNat_natCast]
  congr 1
  refine List.map_congr_left fun j hj => ?_
  have hj := rng_mem hj
  rw [cut_rng (n := n) (by omega) (by omega) (by rw [List.length_map, rng_len]; omega)]
  refine List.map_congr_left fun i hi => ?_
  have hi := rng_mem hi
  rw [means_at (by omega) (by omega)]
  congr 1
  omega
theorem mode7 (A : Arnd n lo hi above left corner) (hn : n = 4 ∨ n = 8) : F__down_left above left corner top = .ok (tab n fun j i => mean3 (eL above n) (i + j + 1)) := by
  unfold F__down_left
  have hl : ([itD above ((n : Int) - 1)] : List Int).length = 1 := rfl
  obtain ⟨a1, _⟩ := A.at_a (k := (n : Int) - 1) (by omega) (by omega)
  have e := means_ok (xs := eL above n) (m := 2 * n - 1) (by rw [eL_len A]; omega) (by omega)
  unfold eL at e
  rw [bnd_eq]
  have key : ∀ z : Int, z = n → (grd (-((above).length : Int) ≤ (z - 1) ∧ (z - 1) < ((above).length : Int)) <| grd (-(2 ^ 63) ≤ ((z + 1) : Int) ∧ ((z + 1) : Int) < 2 ^ 63 ∧ ([(itD (above) ((z - 1)))]).length * Int.toNat ((z + 1)) ≤ 1000000) <| grd ((above).length + (repL ([(itD (above) ((z - 1)))]) ((z + 1))).length ≤ 1000000) <| Rx.bind (F__means ((above) ++ (repL ([(itD (above) ((z - 1)))]) ((z + 1))))) fun v => grd (-(2 ^ 62) ≤ z ∧ z < 2 ^ 62) <| Rx.bind (mapA (rng (0) (Int.toNat (z))) [] (fun x => noEr (F__down_left_c1 (z) (v) x))) fun w => (.ok (w) : Rx (List (List Int)))) = .ok (tab n fun j i => mean3 (eL above n) (i + j + 1)) := by
    rintro z rfl
    rw [grd_pos a1, grd_pos ⟨by omega, by omega, by rw [List.length_singleton]; omega⟩, grd_pos (by rw [repL_len, A.la, List.length_singleton]; omega), e, bind_ok, grd_pos ⟨by omega, by omega⟩]
    rw [mapA_pure0 (f := fun x => noEr (F__down_left_c1 (n : Int) ((rng 1 (2 * n - 1)).map fun k => mean3 (above ++ repL [itD above ((n : Int) - 1)] ((n : Int) + 1)) k) x)) (g := fun j => cutL ((rng 1 (2 * n - 1)).map fun k => mean3 (eL above n) k) (some j) (some (j + n))) (fun j _ => rfl) (by rw [rng_len]; omega), bind_ok]
    unfold tab
    rw [Int.toNat_natCast]
    congr 1
    refine List.map_congr_left fun j hj => ?_
    have hj := rng_mem hj
    rw [cut_rng (n := n) (by omega) (by omega) (by rw [List.length_map, rng_len]; omega)]
    refine List.map_congr_left fun i hi => ?_
    have hi := rng_mem hi
    rw [means_at (by omega) (by omega)]
    congr 1
    omega
  exact key _ (by rw [A.la])
theorem predict_ok (A : Arnd n lo hi above left corner) (hn : n = 4 ∨ n = 8) {mode : Int} (m0 : 0 ≤ mode) (m1 : mode < 8) : F_predict_area above left corner mode top = .ok (tab n (ps n above left corner mode top)) := by
  unfold F_predict_area
  rw [if_pos m0, if_pos m1, grd_pos ⟨m0, m1⟩]
  have : mode = 0 ∨ mode = 1 ∨ mode = 2 ∨ mode = 3 ∨ mode = 4 ∨ mode = 5 ∨ mode = 6 ∨ mode = 7 := by omega
  rcases this with rfl | rfl | rfl | rfl | rfl | rfl | rfl | rfl
  · rw [if_pos rfl, mode0 A hn]
    rfl
  · rw [if_neg (by decide), if_pos rfl, mode1 A hn]
    rfl
  · rw [if_neg (by decide), if_neg (by decide), if_pos rfl, mode2 A hn]
    rfl
  · rw [if_neg (by decide), if_neg (by decide), if_neg (by decide), if_pos rfl, mode3 A hn]
    rfl
  · rw [if_neg (by decide), if_neg (by decide), if_neg (by decide), if_neg (by decide), if_pos rfl, mode4 A hn]
    rfl
  · rw [if_neg (by decide), if_neg (by decide), if_neg (by decide), if_neg (by decide), if_neg (by decide), if_pos rfl, mode5 A hn]
    rfl
  · rw [if_neg (by decide), if_neg (by decide), if_neg (by decide), if_neg (by decide), if_neg (by decide), if_neg (by decide), if_pos rfl, mode6 A hn]
    rfl
  · rw [if_neg (by decide), if_neg (by decide), if_neg (by decide), if_neg (by decide), if_neg (by decide), if_neg (by decide), if_neg (by decide), mode7 A hn]
    rfl
end
theorem bit1 (x : Int) : PySem.Builtin.bitAnd x 1 = x % 2 := by
  have h := Bits.bit_at (x := x) 0
  simpa using h
theorem Inb.all {l : Int} : ∀ {vs ls : List Int}, Inb vs ls → (∀ y ∈ ls, y = l) → ∀ x ∈ vs, 0 ≤ x ∧ x < l
  | [], [], _, _, x, hx => nomatch hx
  | v :: vs, m :: ls, h, e, x, hx => by
    have em := e m List.mem_cons_self
    subst em
    rcases List.mem_cons.mp hx with rfl | hx
    · exact ⟨h.1, h.2.1⟩
    · exact Inb.all h.2.2 (fun y hy => e y (List.mem_cons_of_mem _ hy)) x hx
theorem rep_mem {v x k : Int} (h : x ∈ repL [v] k) : x = v := by
  unfold repL at h
  obtain ⟨l, hl, hx⟩ := List.mem_flatten.mp h
  rw [(List.mem_replicate.mp hl).2] at hx
  exact List.mem_singleton.mp hx
theorem cut_mem {xs : List Int} {a b : Option Int} {x : Int} (h : x ∈ cutL xs a b) : x ∈ xs := by
  unfold cutL at h
  exact List.mem_of_mem_drop (List.mem_of_mem_take h)
theorem cut_from {xs : List Int} {a : Int} (h0 : 0 ≤ a) (h1 : a ≤ xs.length) : (cutL xs (some a) none).length = xs.length - a.toNat := by
  unfold cutL
  have e1 : HT.sIx xs.length 0 (some a) = a.toNat := by
    simp only [HT.sIx]
    split <;> omega
  have e2 : HT.sIx xs.length xs.length none = xs.length := by simp only [HT.sIx]
  rw [e1, e2, List.length_take, List.length_drop]
  omega
theorem cut_to {xs : List Int} {b : Int} (h0 : 0 ≤ b) (h1 : b ≤ xs.length) : (cutL xs none (some b)).length = b.toNat := by
  unfold cutL
  have e1 : HT.sIx xs.length 0 none = 0 := by simp only [HT.sIx]
  have e2 : HT.sIx xs.length xs.length (some b) = b.toNat := by
    simp only [HT.sIx]
    split <;> omega
  rw [e1, e2, List.length_take, List.length_drop]
  omega
theorem around_gv (cell top : Int) (t0 : 255 ≤ top) (t1 : top ≤ 4095) : Gv (F__law_around cell top) (fun p => ∃ n : Nat, (n = 4 ∨ n = 8) ∧ Arnd n 0 top p.1 p.2.1 p.2.2) := by
  unfold F__law_around
  refine Gv.bind (draws_gv _ _ (fun l hl => ?_) (by show 5 ≤ 1000000; decide)) fun ds hd => ?_
  · simp only [List.mem_cons, List.not_mem_nil, or_false] at hl
    rcases hl with rfl | rfl | rfl | rfl | rfl <;> omega
  obtain ⟨d0, r, rfl, a0, a1, hr⟩ := hd.cons
  obtain ⟨d1, r, rfl, b0, b1, hr⟩ := hr.cons
  obtain ⟨d2, r, rfl, c0, c1, hr⟩ := hr.cons
  obtain ⟨d3, r, rfl, e0, e1, hr⟩ := hr.cons
  obtain ⟨d4, r, rfl, f0, f1, hr⟩ := hr.cons
  obtain rfl := hr.nil
  have i1 : itD [d0, d1, d2, d3, d4] 1 = d1 := itD_lit 1 rfl rfl
  have i0 : itD [d0, d1, d2, d3, d4] 0 = d0 := itD_lit 0 rfl rfl
  have i2 : itD [d0, d1, d2, d3, d4] 2 = d2 := itD_lit 2 rfl rfl
  have i4 : itD [d0, d1, d2, d3, d4] 4 = d4 := itD_lit 4 rfl rfl
  have ix : ∀ k : Int, 0 ≤ k → k < 5 → -(([d0, d1, d2, d3, d4] : List Int).length : Int) ≤ k ∧ k < (([d0, d1, d2, d3, d4] : List Int).length : Int) := fun k h0 h1 => by
    show -(5 : Int) ≤ k ∧ k < (5 : Int)
    omega
  refine Gv.grd (ix 1 (by decide) (by decide)) (Gv.bnd fun nn hnn => ?_)
  rw [i1] at hnn
  have hn : ∃ n : Nat, nn = n ∧ (n = 4 ∨ n = 8) := by
    have : d1 = 0 ∨ d1 = 1 := by omega
    rcases this with rfl | rfl
    · exact ⟨4, by omega, .inl rfl⟩
    · exact ⟨8, by omega, .inr rfl⟩
  obtain ⟨n, rfl, hn⟩ := hn
  have hn8 : n ≤ 8 := by omega
  have hn4 : 4 ≤ n := by omega
  refine Gv.grd ⟨by omega, by omega, by rw [List.length_singleton]; omega⟩ (Gv.bind (draws_gv _ _ (fun l hl => by rw [rep_mem hl]; omega) (by rw [repL_len, List.length_singleton]; omega)) fun vs hv => ?_)
  have hvl : vs.length = 2 * n + 1 := by
    rw [hv.len, repL_len, List.length_singleton]
    omega
  have hvb : ∀ x ∈ vs, 0 ≤ x ∧ x ≤ top := fun x hx => by
    have := hv.all (l := top + 1) (fun y hy => rep_mem hy) x hx
    omega
  refine Gv.bind (P := fun vs => vs.length = 2 * n + 1 ∧ ∀ x ∈ vs, 0 ≤ x ∧ x ≤ top) (Gv.grd (ix 0 (by decide) (by decide)) (Gv.ite (fun _ => Gv.grd (ix 2 (by decide) (by decide)) (Gv.grd ⟨by omega, by omega, by rw [List.length_singleton]; omega⟩ (.ok ⟨by rw [repL_len, List.length_singleton]; omega, fun x hx => by rw [rep_mem hx, i2]; omega⟩))) fun _ => .ok ⟨hvl, hvb⟩)) fun vs hv => ?_
  unfold F__law_around_k1
  refine Gv.bind (P := fun vs => vs.length = 2 * n + 1 ∧ ∀ x ∈ vs, 0 ≤ x ∧ x ≤ top) (Gv.grd (ix 0 (by decide) (by decide)) (Gv.ite (fun _ => Gv.bind_eq (mapA_pure0 (g := fun x => top * (x % 2)) (fun x _ => ?_) (by omega)) (.ok ⟨by rw [List.length_map]; exact hv.1, fun x hx => ?_⟩)) fun _ => .ok hv)) fun vs hv => ?_
  · unfold F__law_around_c3
    rw [bit1, grd_pos (.inl ⟨by omega, by omega⟩)]
    rfl
  · obtain ⟨y, _, rfl⟩ := List.mem_map.mp hx
    have : y % 2 = 0 ∨ y % 2 = 1 := by omega
    rcases this with e | e <;> rw [e] <;> omega
  unfold F__law_around_k2
  refine Gv.bind (P := fun vs => vs.length = 2 * n + 1 ∧ ∀ x ∈ vs, 0 ≤ x ∧ x ≤ top) (Gv.grd (ix 0 (by decide) (by decide)) (Gv.ite (fun _ => Gv.grd ⟨by omega, by omega⟩ (Gv.bind_eq (mapA_pure0 (g := fun k => if (if d2 + (d4 - 4) * (k - n) > 0 then d2 + (d4 - 4) * (k - n) else 0) < top then (if d2 + (d4 - 4) * (k - n) > 0 then d2 + (d4 - 4) * (k - n) else 0) else top) (fun k _ => ?_) (by rw [rng_len]; omega)) (.ok ⟨by rw [List.length_map, rng_len]; omega, fun x hx => ?_⟩))) fun _ => .ok hv)) fun vs hv => ?_
  · unfold F__law_around_c5
    rw [i2, i4, grd_pos (ix 2 (by decide) (by decide)), grd_pos (ix 4 (by decide) (by decide)), grd_pos (.inl ⟨by omega, by omega⟩)]
    rfl
  · obtain ⟨y, _, rfl⟩ := List.mem_map.mp hx
    generalize d2 + (d4 - 4) * (y - n) = z
    split <;> split <;> omega
  unfold F__law_around_k4
  refine Gv.grd (by rw [hv.1]; omega) (.ok ⟨n, hn, ?_, ?_, fun x hx => hv.2 x (cut_mem hx), fun x hx => hv.2 x (cut_mem hx), hv.2 _ (itD_mem (by rw [hv.1]; omega))⟩)
  · rw [cut_from (by omega) (by rw [hv.1]; omega), hv.1]
    omega
  · rw [cut_to (by omega) (by rw [hv.1]; omega)]
    omega
theorem pick3 (x y z : Int) : idxL [x, y, z] (minL [x, y, z]) = (if x ≤ y ∧ x ≤ z then 0 else if y ≤ z then 1 else 2) ∧ minL [x, y, z] ∈ [x, y, z] := by
  refine ⟨?_, (minL_spec [x, y, z] (by simp)).1⟩
  have e : minL [x, y, z] = if x ≤ (if y ≤ z then y else z) then x else (if y ≤ z then y else z) := rfl
  rw [e]
  unfold idxL
  by_cases h1 : y ≤ z
  · rw [if_pos h1]
    by_cases h2 : x ≤ y
    · rw [if_pos h2, if_pos ⟨h2, by omega⟩]
      simp
    · rw [if_neg h2, if_neg (fun h => h2 h.1), if_pos h1]
      have : (x == y) = false := by simp; omega
      simp [List.idxOf_cons, this]
  · rw [if_neg h1]
    by_cases h2 : x ≤ z
    · rw [if_pos h2, if_pos ⟨by omega, h2⟩]
      simp
    · rw [if_neg h2, if_neg (fun h => h2 h.2), if_neg h1]
      have e1 : (x == z) = false := by simp; omega
      have e2 : (y == z) = false := by simp; omega
      simp [List.idxOf_cons, e1, e2]
theorem lnear_ok (a b c : Int) : F__law_nearest a b c = .ok (near a b c) := by
  unfold F__law_nearest near
  rw [bnd_eq, show a + b - c - a = b - c by omega, show a + b - c - b = a - c by omega, show a + b - c - c = a + b - 2 * c by omega]
  generalize (if b - c < 0 then -(b - c) else b - c) = x
  generalize (if a - c < 0 then -(a - c) else a - c) = y
  generalize (if a + b - 2 * c < 0 then -(a + b - 2 * c) else a + b - 2 * c) = z
  obtain ⟨p1, p2⟩ := pick3 x y z
  rw [grd_pos (fun h => nomatch h), grd_pos p2, p1]
  by_cases h1 : x ≤ y ∧ x ≤ z
  · rw [if_pos h1, if_pos h1]
    rfl
  · rw [if_neg h1, if_neg h1]
    by_cases h2 : y ≤ z
    · rw [if_pos h2, if_pos h2]
      rfl
    · rw [if_neg h2, if_neg h2]
      rfl
section
variable {n : Nat} {lo hi top : Int} {above left : List Int} {corner : Int}
theorem itD_app {xs ys : List Int} {k : Int} (h0 : 0 ≤ k) (h1 : k < xs.length) : itD (xs ++ ys) k = itD xs k := by
  obtain ⟨j, rfl⟩ := Int.eq_ofNat_of_zero_le h0
  have hj : j < xs.length := by omega
  rw [itD_nat (j := j) rfl (by rw [List.length_append]; omega), itD_nat (j := j) rfl hj, List.getElem_append_left hj]
theorem itD_apr {xs ys : List Int} {k : Int} (h0 : (xs.length : Int) ≤ k) (h1 : k < xs.length + ys.length) : itD (xs ++ ys) k = itD ys (k - xs.length) := by
  obtain ⟨j, rfl⟩ := Int.eq_ofNat_of_zero_le (show 0 ≤ k by omega)
  rw [itD_nat (j := j) rfl (by rw [List.length_append]; omega), itD_nat (xs := ys) (j := j - xs.length) (by omega) (by omega), List.getElem_append_right (by omega)]
theorem rev_rng {xs : List Int} (h : xs.length = n) : ((rng 0 n).map fun k => itD xs ((n : Int) - 1 - k)) = xs.reverse := by
  refine List.ext_getElem (by rw [List.length_map, rng_len, List.length_reverse, h]) fun j h1 h2 => ?_
  rw [List.length_reverse] at h2
  rw [List.getElem_map, List.getElem_reverse]
  have e : (rng 0 n)[j]'(by rw [rng_len]; omega) = (j : Int) := by
    have := rng_get (lo := 0) (n := n) (i := j) (by omega)
    rw [List.getElem?_eq_getElem (by rw [rng_len]; omega)] at this
    have := Option.some.inj this
    omega
  rw [e, itD_nat (j := xs.length - 1 - j) (by omega) (by omega)]
theorem eL_at (A : Arnd n lo hi above left corner) (hn : 0 < n) {k : Int} (h0 : 0 ≤ k) (h1 : k < 2 * n + 1) : itD (eL above n) k = itD above (if k < (n : Int) - 1 then k else (n : Int) - 1) := by
  unfold eL
  have la := A.la
  by_cases h : k < n
  · rw [itD_app h0 (by omega)]
    by_cases h' : k < (n : Int) - 1
    · rw [if_pos h']
    · rw [if_neg h', show k = (n : Int) - 1 by omega]
  · have hl : (repL [itD above ((n : Int) - 1)] ((n : Int) + 1)).length = n + 1 := by rw [repL_len, List.length_singleton]; omega
    rw [itD_apr (by omega) (by rw [hl]; omega), if_neg (by omega)]
    exact rep_mem (itD_mem (by rw [hl]; omega))
theorem sample_ok (A : Arnd n 0 top above left corner) (hn : n = 4 ∨ n = 8) {mode j i : Int} (m0 : 0 ≤ mode) (m1 : mode < 8) (j0 : 0 ≤ j) (j1 : j < n) (i0 : 0 ≤ i) (i1 : i < n) :
    F__law_sample above left corner mode i j top = .ok (ps n above left corner mode top j i) := by
  refine Gv.get ?_
  unfold F__law_sample
  have la := A.la
  have hb : n ≤ 8 := by omega
  have ai := (A.at_a i0 i1).1
  have lj := (A.at_l j0 j1).1
  have an := (A.at_a (k := (n : Int) - 1) (by omega) (by omega)).1
  have ln := (A.at_l (k := (n : Int) - 1) (by omega) (by omega)).1
  refine Gv.bnd fun nn hnn => ?_
  have hnn : nn = (n : Int) := by rw [hnn, la]
  subst hnn
  have sh : itD ([3, 4] : List Int) (if decide ((n : Int) = 8) = true then 1 else 0) = (if (n : Int) = 8 then 4 else 3) ∧ (-(([3, 4] : List Int).length : Int) ≤ (if decide ((n : Int) = 8) = true then 1 else 0) ∧ (if decide ((n : Int) = 8) = true then 1 else 0) < (([3, 4] : List Int).length : Int)) := by
    rcases hn with rfl | rfl
    · exact ⟨rfl, by decide, by decide⟩
    · exact ⟨rfl, by decide, by decide⟩
  obtain ⟨_, s2, s3⟩ := shift_ok hn
  rw [sh.1]
  refine Gv.grd sh.2 (Gv.bnd fun shift hsh => ?_)
  rw [← hsh] at s2 s3
  unfold ps
  refine Gv.ite (fun h => Gv.grd s2 (.ok ?_)) fun h => ?_
  · rw [if_pos h, s3]
  rw [if_neg h]
  refine Gv.ite (fun h => Gv.grd ai (.ok ?_)) fun h => ?_
  · rw [if_pos h]
  rw [if_neg h]
  refine Gv.ite (fun h => Gv.grd lj (.ok ?_)) fun h => ?_
  · rw [if_pos h]
  rw [if_neg h]
  refine Gv.ite (fun h => Gv.grd ai (Gv.grd (.inl ⟨by omega, by omega⟩) (Gv.grd ln (Gv.grd (.inl ⟨by omega, by omega⟩) (Gv.grd lj (Gv.grd (.inl ⟨by omega, by omega⟩) (Gv.grd an (Gv.grd (.inl ⟨by omega, by omega⟩) (Gv.bnd fun t ht => Gv.grd s2 (.ok ?_)))))))))) fun h => ?_
  · rw [if_pos h, s3, ht]
    congr 1
    omega
  rw [if_neg h]
  refine Gv.ite (fun h => Gv.grd lj (Gv.grd ai (Gv.bind_eq (lnear_ok _ _ _) (.ok ?_)))) fun h => ?_
  · rw [if_pos h]
  rw [if_neg h]
  refine Gv.ite (fun h => Gv.grd lj (Gv.grd ai (.ok ?_))) fun h => ?_
  · rw [if_pos h]
    generalize itD left j + itD above i - corner = z
    have := A.bc
    unfold clp
    repeat' split
    all_goals omega
  rw [if_neg h]
  refine Gv.ite (fun h => ?_) fun h => ?_
  · rw [if_pos h]
    refine Gv.grd ⟨by omega, by omega⟩ (Gv.bind_eq (a := left.reverse) ?_ ?_)
    · rw [Int.toNat_natCast, mapA_pure0 (g := fun k => itD left ((n : Int) - 1 - k)) (fun k hk => ?_) (by rw [rng_len]; omega), rev_rng A.ll]
      have hk := rng_mem hk
      unfold F__law_sample_c1
      rw [grd_pos (A.at_l (by omega) (by omega)).1]
      rfl
    · have hl := eR_len A
      refine Gv.grd (by rw [List.length_reverse, A.ll, List.length_singleton]; omega) (Gv.grd (by rw [List.length_append, List.length_reverse, A.ll, List.length_singleton]; omega) (Gv.bnd fun k hk => ?_))
      have e : ∀ k' : Int, 0 ≤ k' → k' < 2 * n + 1 → -((left.reverse ++ [corner] ++ above).length : Int) ≤ k' ∧ k' < (left.reverse ++ [corner] ++ above).length := fun k' a b => by
        show -((eR above left corner).length : Int) ≤ k' ∧ k' < (eR above left corner).length
        rw [hl]
        omega
      refine Gv.grd (e _ (by omega) (by omega)) (Gv.grd (e _ (by omega) (by omega)) (Gv.grd (e _ (by omega) (by omega)) (.ok ?_)))
      rw [hk, show (n : Int) + i - j = (n : Int) - j + i by omega]
      rfl
  · rw [if_neg h]
    refine Gv.bind_eq (mapA_pure0 (g := fun k => if i + j + k < (n : Int) - 1 then i + j + k else (n : Int) - 1) (fun k _ => rfl) (by rw [rng_len]; decide)) ?_
    show Gv (grd _ _) _
    have e : ((rng 0 (Int.toNat 3)).map fun k => if i + j + k < (n : Int) - 1 then i + j + k else (n : Int) - 1) = [if i + j < (n : Int) - 1 then i + j else (n : Int) - 1, if i + j + 1 < (n : Int) - 1 then i + j + 1 else (n : Int) - 1, if i + j + 2 < (n : Int) - 1 then i + j + 2 else (n : Int) - 1] := by
      have : rng 0 (Int.toNat 3) = [0, 1, 2] := by decide
      rw [this]
      simp
    rw [e]
    have p : ∀ k : Int, 0 ≤ k → -(above.length : Int) ≤ (if k < (n : Int) - 1 then k else (n : Int) - 1) ∧ (if k < (n : Int) - 1 then k else (n : Int) - 1) < above.length := fun k hk => by
      rw [la]
      split <;> omega
    have q0 : ∀ a b c : Int, itD [a, b, c] 0 = a := fun a b c => itD_lit 0 rfl rfl
    have q1 : ∀ a b c : Int, itD [a, b, c] 1 = b := fun a b c => itD_lit 1 rfl rfl
    have q2 : ∀ a b c : Int, itD [a, b, c] 2 = c := fun a b c => itD_lit 2 rfl rfl
    rw [q0, q1, q2]
    have ql : ∀ a b c : Int, ([a, b, c] : List Int).length = 3 := fun a b c => rfl
    rw [ql]
    refine Gv.grd ⟨by decide, by decide⟩ (Gv.grd (p _ (by omega)) (Gv.grd ⟨by decide, by decide⟩ (Gv.grd (p _ (by omega)) (Gv.grd ⟨by decide, by decide⟩ (Gv.grd (p _ (by omega)) (.ok ?_))))))
    unfold mean3
    rw [eL_at A (by omega) (by omega) (by omega), eL_at A (by omega) (by omega) (by omega), eL_at A (by omega) (by omega) (by omega), show i + j + 1 - 1 = i + j by omega, show i + j + 1 + 1 = i + j + 2 by omega]
theorem b1_ok (A : Arnd n 0 top above left corner) (hn : n = 4 ∨ n = 8) {mode : Int} (m0 : 0 ≤ mode) (m1 : mode < 8) : F_law_b1 top (above, left, corner) (above, left, corner) n mode = .ok (.go ()) := by
  have hb : n ≤ 8 := by omega
  refine Gv.get ?_
  unfold F_law_b1
  refine Gv.grd ⟨by omega, by omega⟩ (Gv.bind_eq (a := tab n (ps n above left corner mode top)) ?_ (Gv.bind_eq (predict_ok A hn m0 m1) ?_))
  · rw [Int.toNat_natCast]
    refine mapA_pure0 (g := fun j => (rng 0 n).map fun i => ps n above left corner mode top j i) (fun j hj => ?_) (by rw [rng_len]; omega)
    have hj := rng_mem hj
    unfold F_law_c2
    rw [grd_pos ⟨by omega, by omega⟩, Int.toNat_natCast, mapA_pure0 (g := fun i => ps n above left corner mode top j i) (fun i hi => ?_) (by rw [rng_len]; omega)]
    · rfl
    · have hi := rng_mem hi
      unfold F_law_c3
      rw [sample_ok A hn m0 m1 (by omega) (by omega) (by omega) (by omega)]
      rfl
  · have tl : ∀ f, (tab n f).length = n := fun f => tab_len
    have tr : ∀ f : Int → Int → Int, (itD (tab n f) 0).length = n := fun f => tab_row (by omega) (by omega)
    have rows : ∀ f : Int → Int → Int, ∀ r ∈ tab n f, r.length = n := fun f r hr => by
      unfold tab at hr
      obtain ⟨j, _, rfl⟩ := List.mem_map.mp hr
      rw [List.length_map, rng_len]
    generalize hf : ps n above left corner mode top = f
    have g1 : -((tab n f).length : Int) ≤ 0 ∧ 0 < ((tab n f).length : Int) := by rw [tl]; omega
    have g2 : -((itD (tab n f) 0).length : Int) ≤ 0 ∧ 0 < ((itD (tab n f) 0).length : Int) := by rw [tr]; omega
    have c4 : mapA (tab n f) [] (fun x => noEr (F_law_c4 x)) = .ok (tab n f) := by
      rw [mapA_pure0 (f := fun x => noEr (F_law_c4 x)) (g := fun x => x) (fun x _ => rfl) (by rw [tl]; omega), List.map_id']
    refine Gv.pos rfl (Gv.pos rfl (Gv.grd g1 (Gv.grd g2 (Gv.bnd fun y1 e1 => ?_))))
    have g3 : -(y1.length : Int) ≤ -1 ∧ -1 < (y1.length : Int) := by rw [e1, setL_len, tl]; omega
    have g4 : (itD y1 (-1)).length ≤ 1000000 := by
      have hm := itD_mem g3
      rw [e1] at hm
      rw [← e1] at hm
      have : (itD y1 (-1)).length = n := by
        have hm' : itD y1 (-1) ∈ setL (tab n f) 0 (setL (itD (tab n f) 0) 0 (-1)) := by rw [← e1]; exact hm
        rcases setL_mem hm' with h | h
        · exact rows f _ h
        · rw [h, setL_len]
          exact tr f
      omega
    refine Gv.grd g3 (Gv.grd g4 (Gv.bnd fun y2 e2 => Gv.bind_eq c4 (Gv.grd g1 (Gv.grd g2 (Gv.bnd fun z1 h1 => ?_)))))
    have : z1 = y1 := by rw [h1, e1]
    subst this
    refine Gv.grd g3 (Gv.grd g4 (Gv.bnd fun z2 h2 => Gv.pos (by rw [e2, h2]) (Gv.pos rfl (Gv.bind_eq (predict_ok A hn m0 m1) (Gv.pos (by rw [hf]) (.ok rfl))))))
end
theorem refused_ok (above left : List Int) (corner mode top : Int) (h : mode < 0 ∨ 8 ≤ mode) : F__law_refused (above, left, corner) mode top = .ok true := by
  unfold F__law_refused
  have : F_predict_area above left corner mode top = .er 1 := by
    unfold F_predict_area
    rcases h with h | h
    · rw [if_neg (by omega)]
    · rw [if_pos (by omega), if_neg (by omega)]
  show tryR (F_predict_area above left corner mode top) _ _ _ = _
  rw [this, tryR_er (by simp)]
theorem law_true (xs : List Int) (h : xs.length ≤ 63) : F_law xs = .ok true := by
  refine Gv.get ?_
  unfold F_law
  refine Gv.bind (cell_gv xs 0 (by omega)) fun c0 _ => Gv.bind (draws_gv _ _ (fun l hl => ?_) (by show 3 ≤ 1000000; decide)) fun ds hd => ?_
  · simp only [List.mem_cons, List.not_mem_nil, or_false] at hl
    rcases hl with rfl | rfl | rfl <;> omega
  obtain ⟨d0, r, rfl, a0, a1, hr⟩ := hd.cons
  obtain ⟨d1, r, rfl, b0, b1, hr⟩ := hr.cons
  obtain ⟨d2, r, rfl, e0, e1, hr⟩ := hr.cons
  obtain rfl := hr.nil
  have i0 : itD [d0, d1, d2] 0 = d0 := itD_lit 0 rfl rfl
  have i1 : itD [d0, d1, d2] 1 = d1 := itD_lit 1 rfl rfl
  have i2 : itD [d0, d1, d2] 2 = d2 := itD_lit 2 rfl rfl
  have ix : ∀ k : Int, 0 ≤ k → k < 3 → -(([d0, d1, d2] : List Int).length : Int) ≤ k ∧ k < (([d0, d1, d2] : List Int).length : Int) := fun k h0 h1 => by
    show -(3 : Int) ≤ k ∧ k < (3 : Int)
    omega
  rw [i0]
  refine Gv.grd (ix 0 (by decide) (by decide)) (Gv.grd ⟨by omega, by omega, by decide +kernel, by decide +kernel⟩ (Gv.bnd fun top htop => ?_))
  have ht : 255 ≤ top ∧ top ≤ 4095 := by
    have : d0 = 0 ∨ d0 = 1 ∨ d0 = 2 ∨ d0 = 3 ∨ d0 = 4 := by omega
    rcases this with rfl | rfl | rfl | rfl | rfl <;> subst htop <;> decide
  clear htop
  refine Gv.bind (cell_gv xs 1 (by omega)) fun c1 _ => Gv.bind (around_gv _ top ht.1 ht.2) fun ar har => ?_
  obtain ⟨n, hn, A⟩ := har
  obtain ⟨above, left, corner⟩ := ar
  have A : Arnd n 0 top above left corner := A
  have la := A.la
  refine Gv.bnd fun nn hnn => ?_
  have hnn : nn = (n : Int) := by rw [hnn]; show (above.length : Int) = n; rw [la]
  subst hnn
  refine Gv.bind_eq (a := .go ()) (forR_unit fun mode hm => ?_) ?_
  · have hm := rng_mem hm
    exact b1_ok A hn (by omega) (by omega)
  rw [aft_go]
  unfold F_law_r1
  rw [i1, i2]
  have hp : itD ([8 + d1, -1 - d1] : List Int) d2 < 0 ∨ 8 ≤ itD ([8 + d1, -1 - d1] : List Int) d2 := by
    have : d2 = 0 ∨ d2 = 1 := by omega
    rcases this with rfl | rfl
    · have := itD_lit (xs := [8 + d1, -1 - d1]) (a := 8 + d1) (k := 0) 0 rfl rfl
      omega
    · have := itD_lit (xs := [8 + d1, -1 - d1]) (a := -1 - d1) (k := 1) 1 rfl rfl
      omega
  refine Gv.grd (ix 1 (by decide) (by decide)) (Gv.grd (ix 1 (by decide) (by decide)) (Gv.grd (ix 2 (by decide) (by decide)) (Gv.grd (by show -(2 : Int) ≤ d2 ∧ d2 < (2 : Int); omega) (Gv.bind_eq (refused_ok above left corner _ top hp) (.ok rfl)))))

end Vx
namespace Vx
open PySem PySem.Spec PyProof.Rows L2
def topS (i : Nat) : Stmt := PySem.Challenge.pw_thaumatrope_k30_areas_predicted.main.body.getD i (.Pass ⟨0, 0, 0, 0⟩)
abbrev s__law_draws : Stmt := topS 21
abbrev s__law_around : Stmt := topS 22
abbrev s__mean_shift : Stmt := topS 16
abbrev s__average : Stmt := topS 6
abbrev s__vertical : Stmt := topS 7
abbrev s__horizontal : Stmt := topS 8
abbrev s__smooth : Stmt := topS 9
abbrev s__nearest_of : Stmt := topS 17
abbrev s__nearest : Stmt := topS 10
abbrev s_clip : Stmt := topS 1
abbrev s__slope : Stmt := topS 11
abbrev s__means : Stmt := topS 18
abbrev s__down_right : Stmt := topS 12
abbrev s__down_left : Stmt := topS 13
abbrev s_predict_area : Stmt := topS 15
abbrev s__law_refused : Stmt := topS 25
abbrev s__law_cell : Stmt := topS 20
abbrev s__law_nearest : Stmt := topS 23
abbrev s__law_sample : Stmt := topS 24
abbrev s_law : Stmt := topS 26
structure Ads where
  x_CodecError : Addr
  x_OutOfRange : Addr
  t_MODES : Addr
  f__average : Addr
  f__vertical : Addr
  f__horizontal : Addr
  f__smooth : Addr
  f__nearest : Addr
  f__slope : Addr
  f__down_right : Addr
  f__down_left : Addr
  z0 : Addr
def excA (AD : Ads) : Nat → Addr
  | 0 => AD.x_CodecError
  | 1 => AD.x_OutOfRange
  | _ => AD.z0
structure Txt (K : PySem.W.Frag) (mg : Str → Option Value) (AD : Ads) : Prop where
  b_abs : mg "abs" = none
  b_int : mg "int" = none
  b_range : mg "range" = none
  b_min : mg "min" = none
  b_max : mg "max" = none
  b_len : mg "len" = none
  b_sum : mg "sum" = none
  b_list : mg "list" = none
  g_MODES : ∃ u, mg "MODES" = some u ∧ RelV (V.ref AD.t_MODES) u
  ts_MODES : ∀ H, SqT K H AD.t_MODES (([AD.f__average, AD.f__vertical, AD.f__horizontal, AD.f__smooth, AD.f__nearest, AD.f__slope, AD.f__down_right, AD.f__down_left] : List Addr).map V.ref)
  b_isinstance : mg "isinstance" = none
  gf__average : mg "_average" = some (.ref AD.f__average)
  gf__vertical : mg "_vertical" = some (.ref AD.f__vertical)
  gf__horizontal : mg "_horizontal" = some (.ref AD.f__horizontal)
  gf__smooth : mg "_smooth" = some (.ref AD.f__smooth)
  gf__nearest : mg "_nearest" = some (.ref AD.f__nearest)
  gf__slope : mg "_slope" = some (.ref AD.f__slope)
  gf__down_right : mg "_down_right" = some (.ref AD.f__down_right)
  gf__down_left : mg "_down_left" = some (.ref AD.f__down_left)
  xg_OutOfRange : mg "OutOfRange" = some (.ref AD.x_OutOfRange)
  xx_OutOfRange : PySem.W.excIn K AD.x_OutOfRange [.type "ValueError", .type "Exception", .type "BaseException", .type "object"] "ValueError.__new__" = true
  xk_OutOfRange : PySem.W.keepIn K (.ref AD.x_OutOfRange) = true
  xb_OutOfRange : PySem.W.subIn K (.ref AD.x_OutOfRange) (.type "BaseException") = some true
  xt_OutOfRange : PySem.W.typeIn K (.ref AD.x_OutOfRange) = some (.type "type")
  xg_CodecError : mg "CodecError" = some (.ref AD.x_CodecError)
  xx_CodecError : PySem.W.excIn K AD.x_CodecError [.type "ValueError", .type "Exception", .type "BaseException", .type "object"] "ValueError.__new__" = true
  xk_CodecError : PySem.W.keepIn K (.ref AD.x_CodecError) = true
  xb_CodecError : PySem.W.subIn K (.ref AD.x_CodecError) (.type "BaseException") = some true
  xt_CodecError : PySem.W.typeIn K (.ref AD.x_CodecError) = some (.type "type")
  xm_OutOfRange_OutOfRange : PySem.W.exmOne K (.ref AD.x_OutOfRange) (.ref AD.x_OutOfRange) = some true
  xo_OutOfRange_CodecError : PySem.W.kitOne K (.ref AD.x_OutOfRange) (.ref AD.x_CodecError) = some true
  xc_OutOfRange : ExcC K AD.x_OutOfRange
abbrev pat__law_draws_0 : Pat := (2, [], fun vs _ => vs)
abbrev pats__law_draws : List Pat := [pat__law_draws_0]
abbrev pat__law_around_0 : Pat := (2, [], fun vs _ => vs)
abbrev pats__law_around : List Pat := [pat__law_around_0]
abbrev pat__mean_shift_0 : Pat := (1, [], fun vs _ => vs)
abbrev pats__mean_shift : List Pat := [pat__mean_shift_0]
abbrev pat__average_0 : Pat := (4, [], fun vs _ => vs)
abbrev pats__average : List Pat := [pat__average_0]
abbrev pat__vertical_0 : Pat := (4, [], fun vs _ => vs)
abbrev pats__vertical : List Pat := [pat__vertical_0]
abbrev pat__horizontal_0 : Pat := (4, [], fun vs _ => vs)
abbrev pats__horizontal : List Pat := [pat__horizontal_0]
abbrev pat__smooth_0 : Pat := (4, [], fun vs _ => vs)
abbrev pats__smooth : List Pat := [pat__smooth_0]
abbrev pat__nearest_of_0 : Pat := (3, [], fun vs _ => vs)
abbrev pats__nearest_of : List Pat := [pat__nearest_of_0]
abbrev pat__nearest_0 : Pat := (4, [], fun vs _ => vs)
abbrev pats__nearest : List Pat := [pat__nearest_0]
abbrev pat_clip_0 : Pat := (3, [], fun vs _ => vs)
abbrev pats_clip : List Pat := [pat_clip_0]
abbrev pat__slope_0 : Pat := (4, [], fun vs _ => vs)
abbrev pats__slope : List Pat := [pat__slope_0]
abbrev pat__means_0 : Pat := (1, [], fun vs _ => vs)
abbrev pats__means : List Pat := [pat__means_0]
abbrev pat__down_right_0 : Pat := (4, [], fun vs _ => vs)
abbrev pats__down_right : List Pat := [pat__down_right_0]
abbrev pat__down_left_0 : Pat := (4, [], fun vs _ => vs)
abbrev pats__down_left : List Pat := [pat__down_left_0]
abbrev pat_predict_area_0 : Pat := (4, ["top"], fun vs zs => match vs, zs with | [a0, a1, a2, a3], [b0] => [a0, a1, a2, a3, b0] | _, _ => [])
abbrev pats_predict_area : List Pat := [pat_predict_area_0]
abbrev pat__law_refused_0 : Pat := (3, [], fun vs _ => vs)
abbrev pats__law_refused : List Pat := [pat__law_refused_0]
abbrev pat__law_cell_0 : Pat := (2, [], fun vs _ => vs)
abbrev pats__law_cell : List Pat := [pat__law_cell_0]
abbrev pat__law_nearest_0 : Pat := (3, [], fun vs _ => vs)
abbrev pats__law_nearest : List Pat := [pat__law_nearest_0]
abbrev pat__law_sample_0 : Pat := (7, [], fun vs _ => vs)
abbrev pats__law_sample : List Pat := [pat__law_sample_0]
abbrev pats_law : List Pat := []
def sp__law_draws (K : PySem.W.Frag) (AD : Ads) : Sp := fun vs H Q E => ∃ (G : Hp) (cell' : Int) (a_limits : Addr) (limits' : List Int), vs = [.int cell', .ref a_limits] ∧ Same G H ∧ (hideL [] H) a_limits = some (.lst ((limits' : List Int).map V.int)) ∧ cW (F__law_draws cell' limits') (fun v => ∀ p H', H p = none → Same H H' → H' p = some (.lst (v.map V.int)) → Q (.ref p) H') (fun e => ∀ H', Same H H' → E (.ref (excA AD e)) none H')
def sp__law_around (K : PySem.W.Frag) (AD : Ads) : Sp := fun vs H Q E => ∃ (G : Hp) (cell' : Int) (top' : Int), vs = [.int cell', .int top'] ∧ Same G H ∧ cW (F__law_around cell' top') (fun v => ∀ u H' G', Same H H' → Same G G' → Same G' H' → (∀ b, H b ≠ none → G b = none → G' b = none) → Rp G' u ((encT3 (encL PyData.int) (encL PyData.int) PyData.int) v) → Q u H') (fun e => ∀ H', Same H H' → E (.ref (excA AD e)) none H')
def sp__mean_shift (K : PySem.W.Frag) (AD : Ads) : Sp := fun vs H Q E => ∃ (G : Hp) (n' : Int), vs = [.int n'] ∧ Same G H ∧ cW (F__mean_shift n') (fun v => Q (.int v) H) (fun e => E (.ref (excA AD e)) none H)
def sp__average (K : PySem.W.Frag) (AD : Ads) : Sp := fun vs H Q E => ∃ (G : Hp) (a_above : Addr) (above' : List Int) (a_left : Addr) (left' : List Int) (corner' : Int) (top' : Int), vs = [.ref a_above, .ref a_left, .int corner', .int top'] ∧ Same G H ∧ (hideL [] H) a_above = some (.lst ((above' : List Int).map V.int)) ∧ (hideL [] H) a_left = some (.lst ((left' : List Int).map V.int)) ∧ cW (F__average above' left' corner' top') (fun v => ∀ (H' : Hp) (a : Addr) (vs : List V) (L : List Addr) (G' : Hp), H a = none → (∀ b ∈ L, H b = none) → (∀ b ∈ L, b ≠ a) → Same H H' → Same G G' → Same G' H' → (∀ b, H b ≠ none → G b = none → G' b = none) → G' a = none → (∀ b ∈ L, G' b = none) → H' a = some (.lst vs) → OwAll G' H' L vs ((v : (List (List Int))).map (oL oI)) → Q (.ref a) H') (fun e => ∀ H', Same H H' → E (.ref (excA AD e)) none H')
def sp__vertical (K : PySem.W.Frag) (AD : Ads) : Sp := fun vs H Q E => ∃ (G : Hp) (a_above : Addr) (above' : List Int) (a_left : Addr) (left' : List Int) (corner' : Int) (top' : Int), vs = [.ref a_above, .ref a_left, .int corner', .int top'] ∧ Same G H ∧ (hideL [] H) a_above = some (.lst ((above' : List Int).map V.int)) ∧ (hideL [] H) a_left = some (.lst ((left' : List Int).map V.int)) ∧ cW (F__vertical above' left' corner' top') (fun v => ∀ (H' : Hp) (a : Addr) (vs : List V) (L : List Addr) (G' : Hp), H a = none → (∀ b ∈ L, H b = none) → (∀ b ∈ L, b ≠ a) → Same H H' → Same G G' → Same G' H' → (∀ b, H b ≠ none → G b = none → G' b = none) → G' a = none → (∀ b ∈ L, G' b = none) → H' a = some (.lst vs) → OwAll G' H' L vs ((v : (List (List Int))).map (oL oI)) → Q (.ref a) H') (fun e => ∀ H', Same H H' → E (.ref (excA AD e)) none H')
def sp__horizontal (K : PySem.W.Frag) (AD : Ads) : Sp := fun vs H Q E => ∃ (G : Hp) (a_above : Addr) (above' : List Int) (a_left : Addr) (left' : List Int) (corner' : Int) (top' : Int), vs = [.ref a_above, .ref a_left, .int corner', .int top'] ∧ Same G H ∧ (hideL [] H) a_above = some (.lst ((above' : List Int).map V.int)) ∧ (hideL [] H) a_left = some (.lst ((left' : List Int).map V.int)) ∧ cW (F__horizontal above' left' corner' top') (fun v => ∀ (H' : Hp) (a : Addr) (vs : List V) (L : List Addr) (G' : Hp), H a = none → (∀ b ∈ L, H b = none) → (∀ b ∈ L, b ≠ a) → Same H H' → Same G G' → Same G' H' → (∀ b, H b ≠ none → G b = none → G' b = none) → G' a = none → (∀ b ∈ L, G' b = none) → H' a = some (.lst vs) → OwAll G' H' L vs ((v : (List (List Int))).map (oL oI)) → Q (.ref a) H') (fun e => ∀ H', Same H H' → E (.ref (excA AD e)) none H')
def sp__smooth (K : PySem.W.Frag) (AD : Ads) : Sp := fun vs H Q E => ∃ (G : Hp) (a_above : Addr) (above' : List Int) (a_left : Addr) (left' : List Int) (corner' : Int) (top' : Int), vs = [.ref a_above, .ref a_left, .int corner', .int top'] ∧ Same G H ∧ (hideL [] H) a_above = some (.lst ((above' : List Int).map V.int)) ∧ (hideL [] H) a_left = some (.lst ((left' : List Int).map V.int)) ∧ cW (F__smooth above' left' corner' top') (fun v => ∀ (H' : Hp) (a : Addr) (vs : List V) (L : List Addr) (G' : Hp), H a = none → (∀ b ∈ L, H b = none) → (∀ b ∈ L, b ≠ a) → Same H H' → Same G G' → Same G' H' → (∀ b, H b ≠ none → G b = none → G' b = none) → G' a = none → (∀ b ∈ L, G' b = none) → H' a = some (.lst vs) → OwAll G' H' L vs ((v : (List (List Int))).map (oL oI)) → Q (.ref a) H') (fun e => ∀ H', Same H H' → E (.ref (excA AD e)) none H')
def sp__nearest_of (K : PySem.W.Frag) (AD : Ads) : Sp := fun vs H Q E => ∃ (G : Hp) (side' : Int) (sample' : Int) (corner' : Int), vs = [.int side', .int sample', .int corner'] ∧ Same G H ∧ cW (F__nearest_of side' sample' corner') (fun v => Q (.int v) H) (fun e => E (.ref (excA AD e)) none H)
def sp__nearest (K : PySem.W.Frag) (AD : Ads) : Sp := fun vs H Q E => ∃ (G : Hp) (a_above : Addr) (above' : List Int) (a_left : Addr) (left' : List Int) (corner' : Int) (top' : Int), vs = [.ref a_above, .ref a_left, .int corner', .int top'] ∧ Same G H ∧ (hideL [] H) a_above = some (.lst ((above' : List Int).map V.int)) ∧ (hideL [] H) a_left = some (.lst ((left' : List Int).map V.int)) ∧ cW (F__nearest above' left' corner' top') (fun v => ∀ (H' : Hp) (a : Addr) (vs : List V) (L : List Addr) (G' : Hp), H a = none → (∀ b ∈ L, H b = none) → (∀ b ∈ L, b ≠ a) → Same H H' → Same G G' → Same G' H' → (∀ b, H b ≠ none → G b = none → G' b = none) → G' a = none → (∀ b ∈ L, G' b = none) → H' a = some (.lst vs) → OwAll G' H' L vs ((v : (List (List Int))).map (oL oI)) → Q (.ref a) H') (fun e => ∀ H', Same H H' → E (.ref (excA AD e)) none H')
def sp_clip (K : PySem.W.Frag) (AD : Ads) : Sp := fun vs H Q E => ∃ (G : Hp) (value' : Int) (low' : Int) (high' : Int), vs = [.int value', .int low', .int high'] ∧ Same G H ∧ cW (F_clip value' low' high') (fun v => Q (.int v) H) (fun e => E (.ref (excA AD e)) none H)
def sp__slope (K : PySem.W.Frag) (AD : Ads) : Sp := fun vs H Q E => ∃ (G : Hp) (a_above : Addr) (above' : List Int) (a_left : Addr) (left' : List Int) (corner' : Int) (top' : Int), vs = [.ref a_above, .ref a_left, .int corner', .int top'] ∧ Same G H ∧ (hideL [] H) a_above = some (.lst ((above' : List Int).map V.int)) ∧ (hideL [] H) a_left = some (.lst ((left' : List Int).map V.int)) ∧ cW (F__slope above' left' corner' top') (fun v => ∀ (H' : Hp) (a : Addr) (vs : List V) (L : List Addr) (G' : Hp), H a = none → (∀ b ∈ L, H b = none) → (∀ b ∈ L, b ≠ a) → Same H H' → Same G G' → Same G' H' → (∀ b, H b ≠ none → G b = none → G' b = none) → G' a = none → (∀ b ∈ L, G' b = none) → H' a = some (.lst vs) → OwAll G' H' L vs ((v : (List (List Int))).map (oL oI)) → Q (.ref a) H') (fun e => ∀ H', Same H H' → E (.ref (excA AD e)) none H')
def sp__means (K : PySem.W.Frag) (AD : Ads) : Sp := fun vs H Q E => ∃ (G : Hp) (a_samples : Addr) (samples' : List Int), vs = [.ref a_samples] ∧ Same G H ∧ (hideL [] H) a_samples = some (.lst ((samples' : List Int).map V.int)) ∧ cW (F__means samples') (fun v => ∀ p H', H p = none → Same H H' → H' p = some (.lst (v.map V.int)) → Q (.ref p) H') (fun e => ∀ H', Same H H' → E (.ref (excA AD e)) none H')
def sp__down_right (K : PySem.W.Frag) (AD : Ads) : Sp := fun vs H Q E => ∃ (G : Hp) (a_above : Addr) (above' : List Int) (a_left : Addr) (left' : List Int) (corner' : Int) (top' : Int), vs = [.ref a_above, .ref a_left, .int corner', .int top'] ∧ Same G H ∧ (hideL [] H) a_above = some (.lst ((above' : List Int).map V.int)) ∧ (hideL [] H) a_left = some (.lst ((left' : List Int).map V.int)) ∧ cW (F__down_right above' left' corner' top') (fun v => ∀ (H' : Hp) (a : Addr) (vs : List V) (L : List Addr) (G' : Hp), H a = none → (∀ b ∈ L, H b = none) → (∀ b ∈ L, b ≠ a) → Same H H' → Same G G' → Same G' H' → (∀ b, H b ≠ none → G b = none → G' b = none) → G' a = none → (∀ b ∈ L, G' b = none) → H' a = some (.lst vs) → OwAll G' H' L vs ((v : (List (List Int))).map (oL oI)) → Q (.ref a) H') (fun e => ∀ H', Same H H' → E (.ref (excA AD e)) none H')
def sp__down_left (K : PySem.W.Frag) (AD : Ads) : Sp := fun vs H Q E => ∃ (G : Hp) (a_above : Addr) (above' : List Int) (a_left : Addr) (left' : List Int) (corner' : Int) (top' : Int), vs = [.ref a_above, .ref a_left, .int corner', .int top'] ∧ Same G H ∧ (hideL [] H) a_above = some (.lst ((above' : List Int).map V.int)) ∧ (hideL [] H) a_left = some (.lst ((left' : List Int).map V.int)) ∧ cW (F__down_left above' left' corner' top') (fun v => ∀ (H' : Hp) (a : Addr) (vs : List V) (L : List Addr) (G' : Hp), H a = none → (∀ b ∈ L, H b = none) → (∀ b ∈ L, b ≠ a) → Same H H' → Same G G' → Same G' H' → (∀ b, H b ≠ none → G b = none → G' b = none) → G' a = none → (∀ b ∈ L, G' b = none) → H' a = some (.lst vs) → OwAll G' H' L vs ((v : (List (List Int))).map (oL oI)) → Q (.ref a) H') (fun e => ∀ H', Same H H' → E (.ref (excA AD e)) none H')
def sp_predict_area (K : PySem.W.Frag) (AD : Ads) : Sp := fun vs H Q E => ∃ (G : Hp) (a_above : Addr) (above' : List Int) (a_left : Addr) (left' : List Int) (corner' : Int) (mode' : Int) (top' : Int), vs = [.ref a_above, .ref a_left, .int corner', .int mode', .int top'] ∧ Same G H ∧ (hideL [] H) a_above = some (.lst ((above' : List Int).map V.int)) ∧ (hideL [] H) a_left = some (.lst ((left' : List Int).map V.int)) ∧ cW (F_predict_area above' left' corner' mode' top') (fun v => ∀ (H' : Hp) (a : Addr) (vs : List V) (L : List Addr) (G' : Hp), H a = none → (∀ b ∈ L, H b = none) → (∀ b ∈ L, b ≠ a) → Same H H' → Same G G' → Same G' H' → (∀ b, H b ≠ none → G b = none → G' b = none) → G' a = none → (∀ b ∈ L, G' b = none) → H' a = some (.lst vs) → OwAll G' H' L vs ((v : (List (List Int))).map (oL oI)) → Q (.ref a) H') (fun e => ∀ H', Same H H' → E (.ref (excA AD e)) none H')
def sp__law_refused (K : PySem.W.Frag) (AD : Ads) : Sp := fun vs H Q E => ∃ (G : Hp) (v_around : V) (around' : ((List Int) × (List Int) × Int)) (mode' : Int) (top' : Int), vs = [v_around, .int mode', .int top'] ∧ Same G H ∧ Rp (hideL [] H) v_around ((encT3 (encL PyData.int) (encL PyData.int) PyData.int) around') ∧ cW (F__law_refused around' mode' top') (fun v => ∀ H', Same H H' → Q (.bl v) H') (fun e => ∀ H', Same H H' → E (.ref (excA AD e)) none H')
def sp__law_cell (K : PySem.W.Frag) (AD : Ads) : Sp := fun vs H Q E => ∃ (G : Hp) (a_script : Addr) (script' : List Int) (k' : Int), vs = [.ref a_script, .int k'] ∧ Same G H ∧ SqL K H a_script ((script' : List Int).map V.int) ∧ cW (F__law_cell script' k') (fun v => Q (.int v) H) (fun e => E (.ref (excA AD e)) none H)
def sp__law_nearest (K : PySem.W.Frag) (AD : Ads) : Sp := fun vs H Q E => ∃ (G : Hp) (a' : Int) (b' : Int) (corner' : Int), vs = [.int a', .int b', .int corner'] ∧ Same G H ∧ cW (F__law_nearest a' b' corner') (fun v => ∀ H', Same H H' → Q (.int v) H') (fun e => ∀ H', Same H H' → E (.ref (excA AD e)) none H')
def sp__law_sample (K : PySem.W.Frag) (AD : Ads) : Sp := fun vs H Q E => ∃ (G : Hp) (a_above : Addr) (above' : List Int) (a_left : Addr) (left' : List Int) (corner' : Int) (mode' : Int) (i' : Int) (j' : Int) (top' : Int), vs = [.ref a_above, .ref a_left, .int corner', .int mode', .int i', .int j', .int top'] ∧ Same G H ∧ (hideL [] H) a_above = some (.lst ((above' : List Int).map V.int)) ∧ (hideL [] H) a_left = some (.lst ((left' : List Int).map V.int)) ∧ cW (F__law_sample above' left' corner' mode' i' j' top') (fun v => ∀ H', Same H H' → Q (.int v) H') (fun e => ∀ H', Same H H' → E (.ref (excA AD e)) none H')
def sp_law (K : PySem.W.Frag) (AD : Ads) : Sp := fun vs H Q E => ∃ (a_script : Addr) (script : List Int), vs = [.ref a_script] ∧ SqL K H a_script (script.map V.int) ∧ cW (F_law script) (fun v => v = true) (fun _ => False) ∧ ∀ H', Q (.bl true) H'
section
variable {P : Program} {w : World} {K : PySem.W.Frag} {mg : Str → Option Value} {base : Heap} {AD : Ads}
abbrev N__law_draws : List Str := ["cell", "limits", "found", "rest", "state", "free", "limit"]
theorem sc__law_draws : FnScope N__law_draws ["cell", "limits"] (defScope s__law_draws) := ⟨rfl, rfl, rfl, by decide +kernel, rfl, by decide +kernel, by decide +kernel⟩
theorem ok__law_draws (D : DefX K mg "_law_draws" s__law_draws ["cell", "limits"] pats__law_draws) (T : Txt K mg AD)  : CalX P w K mg base 1 "_law_draws" (sp__law_draws K AD) pats__law_draws := by
  refine D.ok sc__law_draws (fun vs H Q E h => ?_) (fun f cdv A_ outer s H vs Q E hr h => ?_)
  · obtain ⟨G, cell', a_limits, limits', rfl, _⟩ := h
    rfl
  · obtain ⟨G, cell', a_limits, limits', rfl, sG, q_limits, hw⟩ := h
    refine ⟨_, (pss_cons (ps_set (i := 2) sc__law_draws.nd rfl (Or.inl rfl) (pe_lst pa_nil))
      (pss_cons (ps_set (i := 3) sc__law_draws.nd rfl (Or.inl rfl) (pe_callB call_abs (by rfl) T.b_abs (by decide +kernel) (pa_cons (pe_callTy call_int1 (by rfl) T.b_int (by decide +kernel) (pa_cons (pv 0) pa_nil)) pa_nil)))
      (pss_cons (ps_set (i := 4) sc__law_draws.nd rfl (Or.inl rfl) (pe_op op_mod (pe_callTy call_int1 (by rfl) T.b_int (by decide +kernel) (pa_cons (pv 3) pa_nil)) pe_int))
      (pss_cons (ps_set (i := 5) sc__law_draws.nd rfl (Or.inl rfl) (pe_or (pe_cmp (pc_lt (pv 0) pe_int)) (pe_one (pe_cmp (pc_ge (pv 0) (pe_op op_pow pe_int pe_int))))))
      (pss_cons (ps_for (passes_of rfl) rfl (pi_listK (K := K) (pv 1)) (pg_name (i := 6) sc__law_draws.nd rfl (Or.inl rfl)) (pss_one (ps_if (PW.pt (pw_and (pt_val (pv 5)) (pw_and1 (pt_cmp (pc_gt (pv 3) pe_int))))) (pss_cons (ps_expr (pe_bm PySem.F.plainAttrs_list PySem.F.slot_list_append PySem.F.type_list_append mt_append (pv 2) (pa_cons (pe_op op_mod (pe_callTy call_int1 (by rfl) T.b_int (by decide +kernel) (pa_cons (pv 3) pa_nil)) (pv 6)) pa_nil)))
      (pss_one (ps_set (i := 3) sc__law_draws.nd rfl (Or.inl rfl) (pe_op op_fdivW (pv 3) (pv 6))))) (pss_cons (ps_set (i := 4) sc__law_draws.nd rfl (Or.inl rfl) (pe_op op_mod (pe_callTy call_int1 (by rfl) T.b_int (by decide +kernel) (pa_cons (pe_op op_add (pe_op op_mul (pv 4) pe_int) pe_int) pa_nil)) pe_int))
      (pss_cons (ps_set (i := 4) sc__law_draws.nd rfl (Or.inl rfl) (pe_op op_mod (pe_callTy call_int1 (by rfl) T.b_int (by decide +kernel) (pa_cons (pe_op op_add (pe_op op_mul (pv 4) pe_int) pe_int) pa_nil)) pe_int))
      (pss_one (ps_expr (pe_bm PySem.F.plainAttrs_list PySem.F.slot_list_append PySem.F.type_list_append mt_append (pv 2) (pa_cons (pe_op op_mod (pe_callTy call_int1 (by rfl) T.b_int (by decide +kernel) (pa_cons (pe_op op_fdivW (pv 4) pe_int) pa_nil)) (pv 6)) pa_nil)))))))))
      (pss_one (ps_ret (pv 2)))))))), ?_⟩
    obtain ⟨KK, EE, hK0, hE, hw⟩ := cW_gen hw
    have S0 := Sep.startG sG
    unfold F__law_draws at hw
    refine ⟨(by show 0 ≤ sizeLine; decide), fun p1 n2 => ?_⟩
    generalize g3 : upd H p1 _ = H4
    obtain ⟨e5, h6⟩ := gen_new n2 g3
    have h7 : H4 p1 = some (.lst ((([] : (List Int)) : (List Int)).map V.int)) := h6
    have fr8 := S0.free n2
    have S9 := S0.new n2 e5 h7 fr8
    refine ⟨_, rfl, .inl ⟨_, rfl, ?_⟩⟩
    refine ⟨_, rfl, ?_⟩
    have hw := cW_bnd hw
    refine ⟨_, rfl, .inl ⟨_, rfl, ?_⟩⟩
    refine ⟨_, _, rfl, rfl, (show (0 : Int) < 2147483647 by decide), ?_⟩
    have hw := cW_bnd hw
    refine vv_or (ta := (tLt (tVar 0) (tC (V.int 0)))) (tb := (tGe (tVar 0) (tOp (rI CPow fun i j => V.int (i ^ j.toNat)) (tC (V.int 10)) (tC (V.int 18))))) (a := decide (cell' < 0)) (b := decide (((10 : Int) ^ Int.toNat 18) ≤ cell')) ?ha12 ?hb13 _ ?_
    case ha12 => exact (vv_cmp (val_var rfl) val_c (fun Q q => ⟨_, _, rfl, rfl, q⟩))
    case hb13 => exact (vv_cmp (val_var rfl) (val_op val_c val_c (fun Q q => ⟨_, _, rfl, rfl, ⟨by decide, by decide, by decide⟩, q⟩)) (fun Q q => ⟨_, _, rfl, rfl, q⟩))
    have hw := cW_bnd hw
    obtain ⟨K16, hK17, hw⟩ := cW_push hw
    refine ⟨_, rfl, _, rfl, ⟨_, (SqL.of (S9.bM _ _ q_limits))⟩, for_list (K := K) (a := a_limits) (xs := (limits' : List Int).map V.int) (fun i σ H' => ∃ (found_18 : (List Int)) (rest_19 : Int) (state_20 : Int) (u21 : Option V) (G' : Hp), σ = [some (V.int (cell')), some (V.ref a_limits), some (V.ref p1), some (V.int rest_19), some (V.int state_20), some (V.bl ((decide (cell' < 0) || decide (((10 : Int) ^ Int.toNat 18) ≤ cell')))), u21] ∧ Same G G' ∧ Sep [] H G G' H' [p1] ∧ H' p1 = some (.lst ((found_18 : (List Int)).map V.int)) ∧ cW (forS (List.drop i (limits')) (found_18, rest_19, state_20) (fun s x => F__law_draws_b1 ((decide (cell' < 0) || decide (((10 : Int) ^ Int.toNat 18) ≤ cell'))) (s.1) (s.2.1) (s.2.2) x)) K16 EE) ?_ ?_ ?_ ?_⟩
    · exact ⟨(([] : (List Int))), ((if cell' < 0 then -cell' else cell')), (((if cell' < 0 then -cell' else cell') % 2147483647)), _, _, rfl, (Same.refl _), S9, h7, hw⟩
    · intro i σ H22 _ hw
      obtain ⟨found_18, rest_19, state_20, u21, G25, rfl, eG26, S23, h24, hw⟩ := hw
      exact (SqL.of (S23.bM _ _ q_limits))
    · intro i x σ H27 hj hw
      obtain ⟨found_18, rest_19, state_20, u21, G30, rfl, eG31, S28, h29, hw⟩ := hw
      obtain ⟨x32, hx, rfl⟩ := map_get hj
      have hw := cW_forS hx hw
      have hw : cW (F__law_draws_b1 ((decide (cell' < 0) || decide (((10 : Int) ^ Int.toNat 18) ≤ cell'))) (found_18) (rest_19) (state_20) (x32)) _ EE := hw
      unfold F__law_draws_b1 at hw
      obtain ⟨K36, hK37, hw⟩ := cW_name hw
      refine ⟨_, rfl, _, rfl, ?_⟩
      refine iteB (fun c39 => ?_) (fun c39 => ?_)
      · have hw := cW_pos c39 hw
        refine ⟨_, rfl, _, _, rfl, rfl, _, rfl, ?_⟩
        refine iteD (fun c40 => ?_) (fun c40 => ?_)
        · have hw := cW_pos c40 hw
          refine ⟨_, rfl, (.inl ⟨rfl, _, SqL.of h29⟩), _, rfl, .inl ⟨_, rfl, ?_⟩⟩
          obtain ⟨g41, hw⟩ := cW_grd hw
          obtain ⟨g42, hw⟩ := cW_grd hw
          refine ⟨_, rfl, _, _, rfl, rfl, g41, _, _, _, rfl, rfl, h29, (app_lenM g42), ?_⟩
          generalize g43 : upd H27 p1 _ = H44
          obtain ⟨x45, h46⟩ := gen_mut g43
          have h47 : H44 p1 = some (.lst (((found_18) ++ [(rest_19 % x32)] : (List Int)).map V.int)) := snoc_map h46
          have S48 := S28.mut1 x45 (.head _) h47
          have hw := cW_bnd hw
          obtain ⟨g50, hw⟩ := cW_grd hw
          refine ⟨_, rfl, _, rfl, _, _, rfl, rfl, (divW_small g50.1 g50.2), ?_⟩
          have hw := cW_bnd hw
          have hw := cW_ok hw
          have hw := hK37 _ hw
          exact ⟨((found_18) ++ [(rest_19 % x32)]), ((rest_19 / x32)), (state_20), _, _, rfl, eG31, S48, h47, hw⟩
        · have hw := cW_neg c40 hw
          refine ⟨_, rfl, _, _, rfl, rfl, (.inr ⟨by decide, by decide⟩), _, _, rfl, rfl, .inl ⟨_, rfl, ?_⟩⟩
          refine ⟨_, _, rfl, rfl, (show (0 : Int) < 2147483647 by decide), ?_⟩
          have hw := cW_bnd hw
          refine ⟨_, rfl, _, _, rfl, rfl, (.inr ⟨by decide, by decide⟩), _, _, rfl, rfl, .inl ⟨_, rfl, ?_⟩⟩
          refine ⟨_, _, rfl, rfl, (show (0 : Int) < 2147483647 by decide), ?_⟩
          have hw := cW_bnd hw
          refine ⟨_, rfl, (.inl ⟨rfl, _, SqL.of h29⟩), _, rfl, _, _, rfl, rfl, (divW_lit (by decide) (by decide)), .inl ⟨_, rfl, ?_⟩⟩
          obtain ⟨g54, hw⟩ := cW_grd hw
          obtain ⟨g55, hw⟩ := cW_grd hw
          refine ⟨_, rfl, _, _, rfl, rfl, g54, _, _, _, rfl, rfl, h29, (app_lenM g55), ?_⟩
          generalize g56 : upd H27 p1 _ = H57
          obtain ⟨x58, h59⟩ := gen_mut g56
          have h60 : H57 p1 = some (.lst (((found_18) ++ [((((((((state_20 * 48271) + 11) % 2147483647) * 69621) + 7) % 2147483647) / 13) % x32)] : (List Int)).map V.int)) := snoc_map h59
          have S61 := S28.mut1 x58 (.head _) h60
          have hw := cW_bnd hw
          have hw := cW_ok hw
          have hw := hK37 _ hw
          exact ⟨((found_18) ++ [((((((((state_20 * 48271) + 11) % 2147483647) * 69621) + 7) % 2147483647) / 13) % x32)]), (rest_19), (((((((state_20 * 48271) + 11) % 2147483647) * 69621) + 7) % 2147483647)), _, _, rfl, eG31, S61, h60, hw⟩
      · have hw := cW_negB c39 hw
        refine iteF ?_
        refine ⟨_, rfl, _, _, rfl, rfl, (.inr ⟨by decide, by decide⟩), _, _, rfl, rfl, .inl ⟨_, rfl, ?_⟩⟩
        refine ⟨_, _, rfl, rfl, (show (0 : Int) < 2147483647 by decide), ?_⟩
        have hw := cW_bnd hw
        refine ⟨_, rfl, _, _, rfl, rfl, (.inr ⟨by decide, by decide⟩), _, _, rfl, rfl, .inl ⟨_, rfl, ?_⟩⟩
        refine ⟨_, _, rfl, rfl, (show (0 : Int) < 2147483647 by decide), ?_⟩
        have hw := cW_bnd hw
        refine ⟨_, rfl, (.inl ⟨rfl, _, SqL.of h29⟩), _, rfl, _, _, rfl, rfl, (divW_lit (by decide) (by decide)), .inl ⟨_, rfl, ?_⟩⟩
        obtain ⟨g65, hw⟩ := cW_grd hw
        obtain ⟨g66, hw⟩ := cW_grd hw
        refine ⟨_, rfl, _, _, rfl, rfl, g65, _, _, _, rfl, rfl, h29, (app_lenM g66), ?_⟩
        generalize g67 : upd H27 p1 _ = H68
        obtain ⟨x69, h70⟩ := gen_mut g67
        have h71 : H68 p1 = some (.lst (((found_18) ++ [((((((((state_20 * 48271) + 11) % 2147483647) * 69621) + 7) % 2147483647) / 13) % x32)] : (List Int)).map V.int)) := snoc_map h70
        have S72 := S28.mut1 x69 (.head _) h71
        have hw := cW_bnd hw
        have hw := cW_ok hw
        have hw := hK37 _ hw
        exact ⟨((found_18) ++ [((((((((state_20 * 48271) + 11) % 2147483647) * 69621) + 7) % 2147483647) / 13) % x32)]), (rest_19), (((((((state_20 * 48271) + 11) % 2147483647) * 69621) + 7) % 2147483647)), _, _, rfl, eG31, S72, h71, hw⟩
    · intro σ H74 hw
      obtain ⟨found_18, rest_19, state_20, u21, G77, rfl, eG78, S75, h76, hw⟩ := hw
      have hw := hK17 _ (cW_forS0 (by rw [List.length_map]) hw)
      have hw : cW (F__law_draws_r1  (found_18) (rest_19) (state_20)) _ EE := hw
      unfold F__law_draws_r1 at hw
      refine ⟨_, rfl, ?_⟩
      have hw := cW_ok hw
      exact hK0 _ hw _ _ fr8 S75.b0 h76

abbrev N__law_around : List Str := ["cell", "top", "draws", "n", "values", "value", "k"]
theorem sc__law_around : FnScope N__law_around ["cell", "top"] (defScope s__law_around) := ⟨rfl, rfl, rfl, by decide +kernel, rfl, by decide +kernel, by decide +kernel⟩
theorem ok__law_around (D : DefX K mg "_law_around" s__law_around ["cell", "top"] pats__law_around) (T : Txt K mg AD) (c__law_draws : CalX P w K mg base 1 "_law_draws" (sp__law_draws K AD) pats__law_draws) : CalX P w K mg base 2 "_law_around" (sp__law_around K AD) pats__law_around := by
  refine D.ok sc__law_around (fun vs H Q E h => ?_) (fun f cdv A_ outer s H vs Q E hr h => ?_)
  · obtain ⟨G, cell', top', rfl, _⟩ := h
    rfl
  · obtain ⟨G, cell', top', rfl, sG, hw⟩ := h
    refine ⟨_, (pss_cons (ps_set (i := 2) sc__law_around.nd rfl (Or.inr rfl) (vx_callX c__law_draws pat__law_draws_0 (.head _) hr (by decide) (takes_of rfl rfl rfl rfl) rfl (pa_cons (pv 0) (pa_cons (pe_lst (pa_cons pe_int (pa_cons pe_int (pa_cons (pe_op op_add (pv 1) pe_int) (pa_cons (pe_op op_add (pv 1) pe_int) (pa_cons pe_int pa_nil)))))) pa_nil)) pk_nil))
      (pss_cons (ps_set (i := 3) sc__law_around.nd rfl (Or.inr rfl) (pe_op op_add pe_int (pe_op op_mul pe_int (pe_ix (ix_listK (K := K)) (pv 2) pe_int (fun _ _ => rfl)))))
      (pss_cons (ps_set (i := 4) sc__law_around.nd rfl (Or.inl rfl) (vx_callX c__law_draws pat__law_draws_0 (.head _) hr (by decide) (takes_of rfl rfl rfl rfl) rfl (pa_cons (pe_op op_fdivW (pe_callTy call_int1 (by rfl) T.b_int (by decide +kernel) (pa_cons (pv 0) pa_nil)) pe_int) (pa_cons (pe_op op_rep (pe_lst (pa_cons (pe_op op_add (pv 1) pe_int) pa_nil)) (pe_op op_add (pe_op op_mul pe_int (pv 3)) pe_int)) pa_nil)) pk_nil))
      (C8.pss_cut (ps_if (pt_cmp (pc_eqI (pe_ix (ix_listK (K := K)) (pv 2) pe_int (fun _ _ => rfl)) pe_int)) (pss_one (ps_set (i := 4) sc__law_around.nd rfl (Or.inl rfl) (pe_op op_rep (pe_lst (pa_cons (pe_ix (ix_listK (K := K)) (pv 2) pe_int (fun _ _ => rfl)) pa_nil)) (pe_op op_add (pe_op op_mul pe_int (pv 3)) pe_int)))) pss_nil)
      (C8.pss_cut (ps_if (pt_cmp (pc_eqI (pe_ix (ix_listK (K := K)) (pv 2) pe_int (fun _ _ => rfl)) pe_int)) (pss_one (ps_setLc (i := 4) (y := "values") rfl sc__law_around.nd rfl rfl (sw_true rfl rfl rfl (by decide +kernel)) (own := [("value", 5)]) (g := gName 5) (pi_listK (K := K) (pv 4)) (blkOk_by (own := [("value", 5)]) (N := N__law_around) (sc := defScope s__law_around) (by decide +kernel)) (fun _ _ _ _ _ => (pg_name (i := 5) sc__law_around.nd rfl (Or.inl rfl))) (fun _ _ _ _ _ => pts_nil) (fun _ _ _ _ _ => (pe_op op_mul (pv 1) (pe_callTy call_int1 (by rfl) T.b_int (by decide +kernel) (pa_cons (pe_op op_and (pv 5) pe_int) pa_nil)))))) pss_nil)
      (C8.pss_cut (ps_if (pt_cmp (pc_eqI (pe_ix (ix_listK (K := K)) (pv 2) pe_int (fun _ _ => rfl)) pe_int)) (pss_one (ps_setLc (i := 4) (y := "values") rfl sc__law_around.nd rfl rfl (sw_true rfl rfl rfl (by decide +kernel)) (own := [("k", 6)]) (g := gName 6) (pi_range1 rfl T.b_range (pa_cons (pe_op op_add (pe_op op_mul pe_int (pv 3)) pe_int) pa_nil)) (blkOk_by (own := [("k", 6)]) (N := N__law_around) (sc := defScope s__law_around) (by decide +kernel)) (fun _ _ _ _ _ => (pg_name (i := 6) sc__law_around.nd rfl (Or.inl rfl))) (fun _ _ _ _ _ => pts_nil) (fun _ _ _ _ _ => (pe_callB (call_min2 rfl) (by rfl) T.b_min (by decide +kernel) (pa_cons (pv 1) (pa_cons (pe_callB (call_max2 rfl) (by rfl) T.b_max (by decide +kernel) (pa_cons pe_int (pa_cons (pe_op op_add (pe_ix (ix_listK (K := K)) (pv 2) pe_int (fun _ _ => rfl)) (pe_op op_mul (pe_op op_sub (pe_ix (ix_listK (K := K)) (pv 2) pe_int (fun _ _ => rfl)) pe_int) (pe_op op_sub (pv 6) (pv 3)))) pa_nil))) pa_nil)))))) pss_nil)
      (pss_one (ps_ret (pe_tup (pa_cons (pe_slice (sl_listK (K := K)) (pv 4) (po_some (pe_op op_add (pv 3) pe_int)) po_none) (pa_cons (pe_slice (sl_listK (K := K)) (pv 4) po_none (po_some (pv 3))) (pa_cons (pe_ix (ix_listK (K := K)) (pv 4) (pv 3) (fun _ _ => rfl)) pa_nil)))))))))))), ?_⟩
    obtain ⟨KK, EE, hK0, hE, hw⟩ := cW_gen hw
    have S0 := Sep.startG sG
    unfold F__law_around at hw
    refine ⟨_, rfl, _, rfl, _, _, rfl, rfl, _, rfl, _, _, rfl, rfl, (by show 5 ≤ sizeLine; decide), fun p82 n83 => ?_⟩
    generalize g84 : upd H p82 _ = H85
    obtain ⟨e86, h87⟩ := gen_new n83 g84
    have h88 : H85 p82 = some (.lst (([5, 2, (top' + 1), (top' + 1), 9] : (List Int)).map V.int)) := h87
    have fr89 := S0.free n83
    have S90 := S0.new n83 e86 h88 fr89
    refine ⟨rfl, rfl, G, _, _, _, rfl, S90.sG, (hide_nil h88), cW_call hw (fun v91 hw p94 H92 n95 e93 h96 => ?_) (fun e he H2 e2 => hE e he H2 (Same.trans S90.b0 e2))⟩
    have h97 : H92 p94 = some (.lst ((v91 : (List Int)).map V.int)) := h96
    have fr98 := S90.free n95
    have S99 := S90.new n95 e93 h97 fr98
    obtain ⟨g100, hw⟩ := cW_grd hw
    refine ⟨_, rfl, _, _, _, _, rfl, rfl, (SqL.of h97), (atI_map g100), _, _, rfl, rfl, (.inl ⟨by decide, by decide⟩), _, _, rfl, rfl, ?_⟩
    have hw := cW_bnd hw
    refine ⟨_, rfl, .inl ⟨_, rfl, ?_⟩⟩
    refine ⟨_, _, rfl, rfl, (divW_lit (by decide) (by decide)), _, rfl, _, _, rfl, rfl, (by show 1 ≤ sizeLine; decide), fun p102 n103 => ?_⟩
    generalize g104 : upd H92 p102 _ = H105
    obtain ⟨e106, h107⟩ := gen_new n103 g104
    have h108 : H105 p102 = some (.lst (([(top' + 1)] : (List Int)).map V.int)) := h107
    have fr109 := S99.free n103
    have S110 := S99.new n103 e106 h108 fr109
    obtain ⟨g111, hw⟩ := cW_grd hw
    refine ⟨_, rfl, _, _, rfl, rfl, (.inl ⟨by decide, by decide⟩), _, _, rfl, rfl, _, _, _, rfl, rfl, h108, g111.1, g111.2.1, (rep_lenM g111.2.2), fun p112 n113 => ?_⟩
    generalize g114 : upd H105 p112 _ = H115
    obtain ⟨e116, h117⟩ := gen_new n113 g114
    have h118 : H115 p112 = some (.lst ((repL ([(top' + 1)]) (((2 * (4 + (4 * (itD (v91) (1))))) + 1)) : (List Int)).map V.int)) := rep_map h117
    have fr119 := S110.free n113
    have S120 := S110.new n113 e116 h118 fr119
    refine ⟨rfl, rfl, G, _, _, _, rfl, S120.sG, (hide_nil h118), cW_call hw (fun v121 hw p124 H122 n125 e123 h126 => ?_) (fun e he H2 e2 => hE e he H2 (Same.trans S120.b0 e2))⟩
    have h127 : H122 p124 = some (.lst ((v121 : (List Int)).map V.int)) := h126
    have fr128 := S120.free n125
    have S129 := S120.new n125 e123 h127 fr128
    refine ⟨fun σ H' => ∃ (p135 : Addr) (values_134 : (List Int)) (G' : Hp), σ = [some (V.int (cell')), some (V.int (top')), some (V.ref p94), some (V.int ((4 + (4 * (itD (v91) (1)))))), some (V.ref p135), none, none] ∧ Same G G' ∧ Sep [] H G G' H' [p94, p135] ∧ H' p94 = some (.lst ((v91 : (List Int)).map V.int)) ∧ H' p135 = some (.lst ((values_134 : (List Int)).map V.int)) ∧ H p135 = none ∧ p135 ≠ p94 ∧ cW (F__law_around_k1 (top') (v91) ((4 + (4 * (itD (v91) (1))))) values_134) KK EE, ?_, ?_⟩
    · obtain ⟨K136, hK137, hw⟩ := cW_push hw
      obtain ⟨g138, hw⟩ := cW_grd hw
      have h139 := (e123 _ _ (e116 _ _ (e106 _ _ h97)))
      refine ⟨_, rfl, _, _, _, _, rfl, rfl, (SqL.of h139), (atI_map g138), _, _, rfl, rfl, _, rfl, ?_⟩
      refine iteD (fun c140 => ?_) (fun c140 => ?_)
      · have hw := cW_pos c140 hw
        obtain ⟨g141, hw⟩ := cW_grd hw
        refine ⟨_, rfl, _, _, _, _, rfl, rfl, (SqL.of h139), (atI_map g141), (by show 1 ≤ sizeLine; decide), fun p142 n143 => ?_⟩
        generalize g144 : upd H122 p142 _ = H145
        obtain ⟨e146, h147⟩ := gen_new n143 g144
        have h148 : H145 p142 = some (.lst (([(itD (v91) (2))] : (List Int)).map V.int)) := h147
        have fr149 := S129.free n143
        have S150 := S129.new n143 e146 h148 fr149
        obtain ⟨g151, hw⟩ := cW_grd hw
        refine ⟨_, rfl, _, _, rfl, rfl, (.inl ⟨by decide, by decide⟩), _, _, rfl, rfl, _, _, _, rfl, rfl, h148, g151.1, g151.2.1, (rep_lenM g151.2.2), fun p152 n153 => ?_⟩
        generalize g154 : upd H145 p152 _ = H155
        obtain ⟨e156, h157⟩ := gen_new n153 g154
        have h158 : H155 p152 = some (.lst ((repL ([(itD (v91) (2))]) (((2 * (4 + (4 * (itD (v91) (1))))) + 1)) : (List Int)).map V.int)) := rep_map h157
        have fr159 := S150.free n153
        have S160 := S150.new n153 e156 h158 fr159
        have hw := cW_ok hw
        have hw := hK137 _ hw
        have h161 := (e156 _ _ (e146 _ _ h139))
        exact ⟨_, (repL ([(itD (v91) (2))]) (((2 * (4 + (4 * (itD (v91) (1))))) + 1))), _, rfl, (Same.refl _), (S160.sub (all_cons (.tail _ (.tail _ (.tail _ (.tail _ (.tail _ (.head _)))))) (all_cons (.head _) all_nil))), h161, h158, fr159, (ne_of_none (e146 _ _ h139) n153).symm, hw⟩
      · have hw := cW_neg c140 hw
        have hw := cW_ok hw
        have hw := hK137 _ hw
        exact ⟨_, (v121), _, rfl, (Same.refl _), (S129.sub (all_cons (.tail _ (.tail _ (.tail _ (.head _)))) (all_cons (.head _) all_nil))), h139, h127, fr128, (ne_of_none (e116 _ _ (e106 _ _ h97)) n125).symm, hw⟩
    · intro σ H162 hw
      obtain ⟨p135, values_134, G168, rfl, eG169, S163, h164, h165, fr166, ne167, hw⟩ := hw
      unfold F__law_around_k1 at hw
      refine ⟨fun σ H' => ∃ (p175 : Addr) (values_174 : (List Int)) (G' : Hp), σ = [some (V.int (cell')), some (V.int (top')), some (V.ref p94), some (V.int ((4 + (4 * (itD (v91) (1)))))), some (V.ref p175), none, none] ∧ Same G168 G' ∧ Sep [] H G G' H' [p94, p175] ∧ H' p94 = some (.lst ((v91 : (List Int)).map V.int)) ∧ H' p175 = some (.lst ((values_174 : (List Int)).map V.int)) ∧ H p175 = none ∧ p175 ≠ p94 ∧ cW (F__law_around_k2 (top') (v91) ((4 + (4 * (itD (v91) (1))))) values_174) KK EE, ?_, ?_⟩
      · obtain ⟨K176, hK177, hw⟩ := cW_push hw
        obtain ⟨g178, hw⟩ := cW_grd hw
        refine ⟨_, rfl, _, _, _, _, rfl, rfl, (SqL.of h164), (atI_map g178), _, _, rfl, rfl, _, rfl, ?_⟩
        refine iteD (fun c179 => ?_) (fun c179 => ?_)
        · have hw := cW_pos c179 hw
          obtain ⟨K182, hK183, hw⟩ := cW_push hw
          refine ⟨_, rfl, _, rfl, ⟨_, (SqL.of h165)⟩, fun D184 n185 => lc_list (K := K) (a := p135) (xs := (values_134 : (List Int)).map V.int) (fun i H' => ∃ (G' : Hp) (acc187 : (List Int)), Same G168 G' ∧ Sep [] H G G' H' [D184, p94, p135] ∧ H' p94 = some (.lst ((v91 : (List Int)).map V.int)) ∧ H' p135 = some (.lst ((values_134 : (List Int)).map V.int)) ∧ H' D184 = some (.lst ((acc187 : (List Int)).map V.int)) ∧ Same H162 H' ∧ cW (mapA (List.drop i (values_134)) acc187 (fun x => noEr (F__law_around_c3 (top') x))) K182 EE) ?_ ?_ ?_ ?_⟩
          · generalize g189 : upd H162 D184 _ = H190
            obtain ⟨e191, h192⟩ := gen_new n185 g189
            have fr193 := S163.free n185
            have S194 := S163.new n185 e191 h192 fr193
            have h195 := (e191 _ _ h164)
            have h196 := (e191 _ _ h165)
            exact ⟨_, [], Same.refl _, S194, h195, h196, h192, e191, hw⟩
          · intro i H197 _ hw
            obtain ⟨G200, acc202, eG201, S198, h209, h210, h199, eo208, hw⟩ := hw
            exact (SqL.of h210)
          · intro i x H211 hj hw
            obtain ⟨G214, acc216, eG215, S212, h223, h224, h213, eo222, hw⟩ := hw
            obtain ⟨x225, hx, rfl⟩ := map_get hj
            obtain ⟨z226, hw⟩ := cW_mapA hx hw
            have hw := cW_noEr hw
            have hw : cW (F__law_around_c3 (top') (x225)) _ (fun _ => False) := hw
            unfold F__law_around_c3 at hw
            refine ⟨rfl, ?_⟩
            refine tyes_go ?_
            refine ⟨_, rfl, _, rfl, _, _, rfl, rfl, .inl ⟨_, rfl, ?_⟩⟩
            obtain ⟨g228, hw⟩ := cW_grd hw
            refine ⟨_, _, rfl, rfl, g228, _, h213, (app_lenM z226), ?_⟩
            generalize g229 : upd H211 D184 _ = H230
            obtain ⟨x231, h232⟩ := gen_mut g229
            have S233 := S212.mut1 x231 (.head _) h232
            have hw := cW_ok hw
            have h234 := (x231 _ _ h223 (ne_of_none h164 n185))
            have h235 := (x231 _ _ h224 (ne_of_none h165 n185))
            exact ⟨_, (acc216 ++ [(top' * (PySem.Builtin.bitAnd (x225) (1)))]), eG215, S233, h234, h235, (snoc_map h232), (same_mut eo222 x231 n185), hw⟩
          intro H236 hw
          obtain ⟨G239, acc241, eG240, S237, h248, h249, h238, eo247, hw⟩ := hw
          have hw := hK183 _ (cW_mapA0 (by rw [List.length_map]) hw)
          have fr250 := S163.free n185
          have hw := cW_ok hw
          have hw := hK177 _ hw
          exact ⟨_, (acc241), _, rfl, eG240, (S237.sub (all_cons (.tail _ (.head _)) (all_cons (.head _) all_nil))), h248, h238, fr250, (ne_of_none h164 n185).symm, hw⟩
        · have hw := cW_neg c179 hw
          have hw := cW_ok hw
          have hw := hK177 _ hw
          exact ⟨_, (values_134), _, rfl, (Same.refl _), S163, h164, h165, fr166, ne167, hw⟩
      · intro σ H251 hw
        obtain ⟨p175, values_174, G257, rfl, eG258, S252, h253, h254, fr255, ne256, hw⟩ := hw
        unfold F__law_around_k2 at hw
        refine ⟨fun σ H' => ∃ (p262 : Addr) (values_261 : (List Int)) (G' : Hp), σ = [some (V.int (cell')), some (V.int (top')), some (V.ref p94), some (V.int ((4 + (4 * (itD (v91) (1)))))), some (V.ref p262), none, none] ∧ Same G257 G' ∧ Sep [] H G G' H' [p94, p262] ∧ H' p94 = some (.lst ((v91 : (List Int)).map V.int)) ∧ H' p262 = some (.lst ((values_261 : (List Int)).map V.int)) ∧ H p262 = none ∧ p262 ≠ p94 ∧ cW (F__law_around_k4 ((4 + (4 * (itD (v91) (1))))) values_261) KK EE, ?_, ?_⟩
        · obtain ⟨K263, hK264, hw⟩ := cW_push hw
          obtain ⟨g265, hw⟩ := cW_grd hw
          refine ⟨_, rfl, _, _, _, _, rfl, rfl, (SqL.of h253), (atI_map g265), _, _, rfl, rfl, _, rfl, ?_⟩
          refine iteD (fun c266 => ?_) (fun c266 => ?_)
          · have hw := cW_pos c266 hw
            obtain ⟨g267, hw⟩ := cW_grd hw
            obtain ⟨K272, hK273, hw⟩ := cW_push hw
            refine ⟨_, rfl, _, _, rfl, rfl, (.inl ⟨by decide, by decide⟩), _, _, rfl, rfl, _, rfl, g267.1, g267.2, fun D274 n275 => lc_range (lo := 0) (n := Int.toNat (((2 * (4 + (4 * (itD (v91) (1))))) + 1))) (fun i H' => ∃ (G' : Hp) (acc277 : (List Int)), Same G257 G' ∧ Sep [] H G G' H' [D274, p94, p175] ∧ H' p94 = some (.lst ((v91 : (List Int)).map V.int)) ∧ H' p175 = some (.lst ((values_174 : (List Int)).map V.int)) ∧ H' D274 = some (.lst ((acc277 : (List Int)).map V.int)) ∧ Same H251 H' ∧ cW (mapA (List.drop i (rng (0) (Int.toNat (((2 * (4 + (4 * (itD (v91) (1))))) + 1))))) acc277 (fun x => noEr (F__law_around_c5 (top') (v91) ((4 + (4 * (itD (v91) (1))))) x))) K272 EE) ?_ ?_ ?_⟩
            · generalize g279 : upd H251 D274 _ = H280
              obtain ⟨e281, h282⟩ := gen_new n275 g279
              have fr283 := S252.free n275
              have S284 := S252.new n275 e281 h282 fr283
              have h285 := (e281 _ _ h253)
              have h286 := (e281 _ _ h254)
              exact ⟨_, [], Same.refl _, S284, h285, h286, h282, e281, hw⟩
            · intro i H287 hi hw
              obtain ⟨G290, acc292, eG291, S288, h299, h300, h289, eo298, hw⟩ := hw
              obtain ⟨z301, hw⟩ := cW_mapA (rng_get hi) hw
              generalize (0 + (i : Int)) = x302 at hw ⊢
              have hw := cW_noEr hw
              have hw : cW (F__law_around_c5 (top') (v91) ((4 + (4 * (itD (v91) (1))))) (x302)) _ (fun _ => False) := hw
              unfold F__law_around_c5 at hw
              refine ⟨rfl, ?_⟩
              refine tyes_go ?_
              obtain ⟨g304, hw⟩ := cW_grd hw
              obtain ⟨g305, hw⟩ := cW_grd hw
              obtain ⟨g306, hw⟩ := cW_grd hw
              refine ⟨_, rfl, _, rfl, _, _, _, _, rfl, rfl, (SqL.of h299), (atI_map g304), _, rfl, _, _, _, _, rfl, rfl, (SqL.of h299), (atI_map g305), _, _, rfl, rfl, _, rfl, _, rfl, _, _, rfl, rfl, _, _, rfl, rfl, g306, _, _, rfl, rfl, _, _, rfl, _, _, rfl, _, h289, (app_lenM z301), ?_⟩
              generalize g307 : upd H287 D274 _ = H308
              obtain ⟨x309, h310⟩ := gen_mut g307
              have S311 := S288.mut1 x309 (.head _) h310
              have hw := cW_ok hw
              have h312 := (x309 _ _ h299 (ne_of_none h253 n275))
              have h313 := (x309 _ _ h300 (ne_of_none h254 n275))
              exact ⟨_, (acc292 ++ [(if (if ((itD (v91) (2)) + (((itD (v91) (4)) - 4) * (x302 - (4 + (4 * (itD (v91) (1))))))) > 0 then ((itD (v91) (2)) + (((itD (v91) (4)) - 4) * (x302 - (4 + (4 * (itD (v91) (1))))))) else 0) < top' then (if ((itD (v91) (2)) + (((itD (v91) (4)) - 4) * (x302 - (4 + (4 * (itD (v91) (1))))))) > 0 then ((itD (v91) (2)) + (((itD (v91) (4)) - 4) * (x302 - (4 + (4 * (itD (v91) (1))))))) else 0) else top')]), eG291, S311, h312, h313, (snoc_map h310), (same_mut eo298 x309 n275), hw⟩
            intro H314 hw
            obtain ⟨G317, acc319, eG318, S315, h326, h327, h316, eo325, hw⟩ := hw
            have hw := hK273 _ (cW_mapA0 (rng_len _ _).symm hw)
            have fr328 := S252.free n275
            have hw := cW_ok hw
            have hw := hK264 _ hw
            exact ⟨_, (acc319), _, rfl, eG318, (S315.sub (all_cons (.tail _ (.head _)) (all_cons (.head _) all_nil))), h326, h316, fr328, (ne_of_none h253 n275).symm, hw⟩
          · have hw := cW_neg c266 hw
            have hw := cW_ok hw
            have hw := hK264 _ hw
            exact ⟨_, (values_174), _, rfl, (Same.refl _), S252, h253, h254, fr255, ne256, hw⟩
        · intro σ H329 hw
          obtain ⟨p262, values_261, G335, rfl, eG336, S330, h331, h332, fr333, ne334, hw⟩ := hw
          unfold F__law_around_k4 at hw
          refine ⟨_, rfl, _, rfl, _, _, rfl, rfl, _, rfl, _, _, rfl, (SqL.of h332), fun p337 n338 => ?_⟩
          generalize g339 : upd H329 p337 _ = H340
          obtain ⟨e341, h342⟩ := gen_new n338 g339
          have h343 : H340 p337 = some (.lst ((cutL (values_261) (some (((4 + (4 * (itD (v91) (1)))) + 1))) none : (List Int)).map V.int)) := cut_map h342
          have fr344 := S330.free n338
          have S345 := S330.new n338 e341 h343 fr344
          have h346 := (e341 _ _ h332)
          refine ⟨_, rfl, _, rfl, _, rfl, _, _, rfl, (SqL.of h346), fun p347 n348 => ?_⟩
          generalize g349 : upd H340 p347 _ = H350
          obtain ⟨e351, h352⟩ := gen_new n348 g349
          have h353 : H350 p347 = some (.lst ((cutL (values_261) none (some ((4 + (4 * (itD (v91) (1)))))) : (List Int)).map V.int)) := cut_map h352
          have fr354 := S345.free n348
          have S355 := S345.new n348 e351 h353 fr354
          obtain ⟨g356, hw⟩ := cW_grd hw
          have h357 := (e351 _ _ h346)
          refine ⟨_, rfl, _, rfl, _, _, _, _, rfl, rfl, (SqL.of h357), (atI_map g356), (by show 3 ≤ sizeLine; decide), fun p358 n359 => ?_⟩
          generalize g360 : upd H350 p358 _ = H361
          obtain ⟨e362, h363⟩ := gen_new n359 g360
          have h364 : H361 p358 = some (.tup [V.ref p337, V.ref p347, V.int ((itD (values_261) ((4 + (4 * (itD (v91) (1)))))))]) := h363
          have fr365 := S355.free n359
          obtain ⟨G367, eG368, hg369, S366⟩ := S355.grow n359 e362 h364 fr365
          have h370 := (e362 _ _ (e351 _ _ h343))
          obtain ⟨G371, eG372, hg373, S374⟩ := Sep.freeze (O' := [p347, p94, p262]) S366 (.tail _ (.head _)) h370 fr344 ((all_cons ⟨(.head _), (ne_of_none h343 n348).symm⟩ (all_cons ⟨(.tail _ (.tail _ (.head _))), (ne_of_none h331 n338)⟩ (all_cons ⟨(.tail _ (.tail _ (.tail _ (.head _)))), (ne_of_none h332 n338)⟩ all_nil))))
          have h375 := (e362 _ _ h353)
          obtain ⟨G376, eG377, hg378, S379⟩ := Sep.freeze (O' := [p94, p262]) S374 (.head _) h375 fr354 ((all_cons ⟨(.tail _ (.head _)), (ne_of_none (e341 _ _ h331) n348)⟩ (all_cons ⟨(.tail _ (.tail _ (.head _))), (ne_of_none h346 n348)⟩ all_nil)))
          have hw := cW_ok hw
          exact hK0 _ hw _ _ _ S379.b0 S379.g0 S379.sG S379.gn (rp_mk3 (eG377 _ _ (eG372 _ _ hg369)) (rp_mk_ints (eG377 _ _ hg373)) (rp_mk_ints hg378) (.int _))

abbrev N__mean_shift : List Str := ["n"]
theorem sc__mean_shift : FnScope N__mean_shift ["n"] (defScope s__mean_shift) := ⟨rfl, rfl, rfl, by decide +kernel, rfl, by decide +kernel, by decide +kernel⟩
theorem ok__mean_shift (D : DefX K mg "_mean_shift" s__mean_shift ["n"] pats__mean_shift) (T : Txt K mg AD)  : CalX P w K mg base 1 "_mean_shift" (sp__mean_shift K AD) pats__mean_shift := by
  refine D.ok sc__mean_shift (fun vs H Q E h => ?_) (fun f cdv A_ outer s H vs Q E hr h => ?_)
  · obtain ⟨G, n', rfl, _⟩ := h
    rfl
  · obtain ⟨G, n', rfl, sG, hw⟩ := h
    refine ⟨_, (pss_one (ps_ret (pe_ifExp (pt_cmp (pc_eqI (pv 0) pe_int)) pe_int pe_int))), ?_⟩
    obtain ⟨KK, EE, hK0, hE, hw⟩ := cW_gen hw
    have S0 := Sep.startG sG
    unfold F__mean_shift at hw
    refine vv_if (vt_cmp (vv_cmp (val_var rfl) val_c (fun Q q => ⟨_, _, rfl, rfl, q⟩))) val_c val_c _ ?_
    have hw := cW_ok hw
    exact hK0 _ hw

abbrev N__average : List Str := ["above", "left", "corner", "top", "n", "value", "_"]
theorem sc__average : FnScope N__average ["above", "left", "corner", "top"] (defScope s__average) := ⟨rfl, rfl, rfl, by decide +kernel, rfl, by decide +kernel, by decide +kernel⟩
theorem ok__average (D : DefX K mg "_average" s__average ["above", "left", "corner", "top"] pats__average) (T : Txt K mg AD) (c__mean_shift : CalX P w K mg base 1 "_mean_shift" (sp__mean_shift K AD) pats__mean_shift) : CalX P w K mg base 2 "_average" (sp__average K AD) pats__average := by
  refine D.ok sc__average (fun vs H Q E h => ?_) (fun f cdv A_ outer s H vs Q E hr h => ?_)
  · obtain ⟨G, a_above, above', a_left, left', corner', top', rfl, _⟩ := h
    rfl
  · obtain ⟨G, a_above, above', a_left, left', corner', top', rfl, sG, q_above, q_left, hw⟩ := h
    refine ⟨_, (pss_cons (ps_set (i := 4) sc__average.nd rfl (Or.inr rfl) (pe_callB (call_lenLiK (K := K)) (by rfl) T.b_len (by decide +kernel) (pa_cons (pv 0) pa_nil)))
      (pss_cons (ps_set (i := 5) sc__average.nd rfl (Or.inr rfl) (pe_op op_shr (pe_op op_add (pe_op op_add (pe_callB (cr_sumK (K := K) rfl) (by rfl) T.b_sum (by decide +kernel) (pa_cons (pv 0) pa_nil)) (pe_callB (cr_sumK (K := K) rfl) (by rfl) T.b_sum (by decide +kernel) (pa_cons (pv 1) pa_nil))) (pv 4)) (vx_callX c__mean_shift pat__mean_shift_0 (.head _) hr (by decide) (takes_of rfl rfl rfl rfl) rfl (pa_cons (pv 4) pa_nil) pk_nil)))
      (pss_one (ps_ret (pe_lc (own := [("_", 6)]) (g := gName 6) (by rfl) sc__average.nd (pi_listK (K := K) (pv 1)) (blkOk_by (own := [("_", 6)]) (N := N__average) (sc := defScope s__average) (by decide +kernel)) (fun _ _ _ _ _ => (pg_name (i := 6) sc__average.nd rfl (Or.inl rfl))) (fun _ _ _ _ _ => pts_nil) (fun _ _ _ _ _ => (pe_op op_rep (pe_lst (pa_cons (pv 5) pa_nil)) (pv 4)))))))), ?_⟩
    obtain ⟨KK, EE, hK0, hE, hw⟩ := cW_gen hw
    have S0 := Sep.startG sG
    unfold F__average at hw
    refine ⟨_, rfl, _, _, rfl, (SqL.of (S0.bM _ _ q_above)), ?_⟩
    have hw := cW_bnd hw
    refine ⟨_, rfl, _, _, rfl, (SqL.of (S0.bM _ _ q_above)), _, rfl, _, _, rfl, (SqL.of (S0.bM _ _ q_left)), _, _, rfl, rfl, _, rfl, _, _, rfl, rfl, _, rfl, rfl, rfl, G, _, rfl, S0.sG, cW_call hw (fun v384 hw => ?_) (fun e he => hE e he _ S0.b0)⟩
    obtain ⟨g385, hw⟩ := cW_grd hw
    refine ⟨_, _, rfl, rfl, g385, ?_⟩
    have hw := cW_bnd hw
    obtain ⟨K390, hK391, hw⟩ := cW_push hw
    refine ⟨_, rfl, _, rfl, ⟨_, (SqL.of (S0.bM _ _ q_left))⟩, fun D392 n393 => lc_list (K := K) (a := a_left) (xs := (left' : List Int).map V.int) (fun i H' => ∃ (G' : Hp) (acc395 : (List (List Int))) (vs396 : List V) (L394 : List Addr), Same G G' ∧ Sep [] H G G' H' (D392 :: (L394 ++ [])) ∧ H' D392 = some (.lst vs396) ∧ OwAll G' H' L394 vs396 ((acc395 : (List (List Int))).map (oL oI)) ∧ (∀ b ∈ L394, H b = none) ∧ (∀ b ∈ L394, b ≠ D392) ∧ Same H H' ∧ cW (mapA (List.drop i (left')) acc395 (fun x => noEr (F__average_c1 ((((above') : (List Int)).length : Int)) (((((List.sum (above')) + (List.sum (left'))) + (((above') : (List Int)).length : Int)) / 2 ^ Int.toNat (v384))) x))) K390 EE) ?_ ?_ ?_ ?_⟩
    · generalize g397 : upd H D392 _ = H398
      obtain ⟨e399, h400⟩ := gen_new n393 g397
      have fr401 := S0.free n393
      have S402 := S0.new n393 e399 h400 fr401
      exact ⟨_, [], [], [], Same.refl _, (S402.sub (all_cons (.head _) (all_app (L := []) all_nil all_nil))), h400, OwAll.nil, all_nil, all_nil, e399, hw⟩
    · intro i H403 _ hw
      obtain ⟨G406, acc408, vs409, L411, eG407, S404, h405, d410, nb412, nd413, eo414, hw⟩ := hw
      exact (SqL.of (S404.bM _ _ q_left))
    · intro i x H415 hj hw
      obtain ⟨G418, acc420, vs421, L423, eG419, S416, h417, d422, nb424, nd425, eo426, hw⟩ := hw
      obtain ⟨x427, hx, rfl⟩ := map_get hj
      obtain ⟨z428, hw⟩ := cW_mapA hx hw
      have hw := cW_noEr hw
      have hw : cW (F__average_c1 ((((above') : (List Int)).length : Int)) (((((List.sum (above')) + (List.sum (left'))) + (((above') : (List Int)).length : Int)) / 2 ^ Int.toNat (v384))) (x427)) _ (fun _ => False) := hw
      unfold F__average_c1 at hw
      refine ⟨rfl, ?_⟩
      refine tyes_go ?_
      refine ⟨_, rfl, (by show 1 ≤ sizeLine; decide), fun p430 n431 => ?_⟩
      generalize g432 : upd H415 p430 _ = H433
      obtain ⟨e434, h435⟩ := gen_new n431 g432
      have h436 : H433 p430 = some (.lst (([((((List.sum (above')) + (List.sum (left'))) + (((above') : (List Int)).length : Int)) / 2 ^ Int.toNat (v384))] : (List Int)).map V.int)) := h435
      have fr437 := S416.free n431
      have S438 := S416.new n431 e434 h436 fr437
      obtain ⟨g439, hw⟩ := cW_grd hw
      refine ⟨_, rfl, _, _, _, rfl, rfl, h436, g439.1, g439.2.1, (rep_lenM g439.2.2), fun p440 n441 => ?_⟩
      generalize g442 : upd H433 p440 _ = H443
      obtain ⟨e444, h445⟩ := gen_new n441 g442
      have h446 : H443 p440 = some (.lst ((repL ([((((List.sum (above')) + (List.sum (left'))) + (((above') : (List Int)).length : Int)) / 2 ^ Int.toNat (v384))]) ((((above') : (List Int)).length : Int)) : (List Int)).map V.int)) := rep_map h445
      have fr447 := S438.free n441
      have S448 := S438.new n441 e444 h446 fr447
      have w449 : OwAll G418 H443 L423 (vs421) ((acc420 : (List (List Int))).map (oL oI)) := (OwAll.mono (Same.refl _) (keeps_same e444) (OwAll.mono (Same.refl _) (keeps_same e434) d422))
      have h450 := (e444 _ _ (e434 _ _ h417))
      refine ⟨_, h450, (app_len (OwAll.rpA w449 (encO_L encO_I) S448.sG) z428), ?_⟩
      generalize g451 : upd H443 D392 _ = H452
      obtain ⟨x453, h454⟩ := gen_mut g451
      have S455 := S448.mut1 x453 (.tail _ (.tail _ (.head _))) h454
      have hw := cW_ok hw
      exact ⟨_, (acc420 ++ [repL ([((((List.sum (above')) + (List.sum (left'))) + (((above') : (List Int)).length : Int)) / 2 ^ Int.toNat (v384))]) ((((above') : (List Int)).length : Int))]), _, (L423 ++ (p440 :: ([] : List Addr))), eG419, (S455.sub (all_cons (.tail _ (.tail _ (.head _))) (all_app (all_app ((fun b hb => (.tail _ (.tail _ (.tail _ (List.mem_append_left _ hb))))) : ∀ b ∈ L423, b ∈ (p440 :: (p430 :: (D392 :: (L423 ++ []))))) (all_cons (.head _) all_nil)) all_nil))), h454, (OwAll.mono (Same.refl _) (keeps_mut x453 ((all_app nd425 (all_cons (ne_of_none (e434 _ _ h417) n441).symm all_nil)) : ∀ b ∈ (L423 ++ (p440 :: ([] : List Addr))), b ≠ D392)) (OwAll.snocM w449 (Ow.ints h446) ((fun b hb => (nm_cons ((there_ne (fun b_ hb_ => (S438.ow b_ (((fun b hb => (.tail _ (.tail _ (List.mem_append_left _ hb)))) : ∀ b ∈ L423, b ∈ (p430 :: (D392 :: (L423 ++ [])))) b_ hb_)).2.1) n441) b hb) nm_nil)) : ∀ b ∈ L423, b ∉ (p440 :: ([] : List Addr))))), ((all_app nb424 (all_cons (none_of_same (Same.trans eo426 e434) n441) all_nil)) : ∀ b ∈ (L423 ++ (p440 :: ([] : List Addr))), H b = none), ((all_app nd425 (all_cons (ne_of_none (e434 _ _ h417) n441).symm all_nil)) : ∀ b ∈ (L423 ++ (p440 :: ([] : List Addr))), b ≠ D392), (same_mut (Same.trans (Same.trans eo426 e434) e444) x453 n393), hw⟩
    intro H456 hw
    obtain ⟨G459, acc461, vs462, L464, eG460, S457, h458, d463, nb465, nd466, eo467, hw⟩ := hw
    have hw := hK391 _ (cW_mapA0 (by rw [List.length_map]) hw)
    have fr468 := S0.free n393
    have hw := cW_ok hw
    exact hK0 _ hw _ _ _ _ _ fr468 ((fun b hb => Sep.h0 S457 (((fun b hb => (.tail _ (List.mem_append_left _ hb))) : ∀ b ∈ L464, b ∈ (D392 :: (L464 ++ []))) b hb) nm_nil) : ∀ b ∈ L464, H b = none) (nd466 : ∀ b ∈ L464, b ≠ D392) S457.b0 S457.g0 S457.sG S457.gn (S457.ow _ (.head _)).1 ((fun b hb => (S457.ow b (((fun b hb => (.tail _ (List.mem_append_left _ hb))) : ∀ b ∈ L464, b ∈ (D392 :: (L464 ++ []))) b hb)).1) : ∀ b ∈ L464, G459 b = none) h458 d463

abbrev N__vertical : List Str := ["above", "left", "corner", "top", "_"]
theorem sc__vertical : FnScope N__vertical ["above", "left", "corner", "top"] (defScope s__vertical) := ⟨rfl, rfl, rfl, by decide +kernel, rfl, by decide +kernel, by decide +kernel⟩
theorem ok__vertical (D : DefX K mg "_vertical" s__vertical ["above", "left", "corner", "top"] pats__vertical) (T : Txt K mg AD)  : CalX P w K mg base 1 "_vertical" (sp__vertical K AD) pats__vertical := by
  refine D.ok sc__vertical (fun vs H Q E h => ?_) (fun f cdv A_ outer s H vs Q E hr h => ?_)
  · obtain ⟨G, a_above, above', a_left, left', corner', top', rfl, _⟩ := h
    rfl
  · obtain ⟨G, a_above, above', a_left, left', corner', top', rfl, sG, q_above, q_left, hw⟩ := h
    refine ⟨_, (pss_one (ps_ret (pe_lc (own := [("_", 4)]) (g := gName 4) (by rfl) sc__vertical.nd (pi_listK (K := K) (pv 1)) (blkOk_by (own := [("_", 4)]) (N := N__vertical) (sc := defScope s__vertical) (by decide +kernel)) (fun _ _ _ _ _ => (pg_name (i := 4) sc__vertical.nd rfl (Or.inl rfl))) (fun _ _ _ _ _ => pts_nil) (fun _ _ _ _ _ => (pe_callTy (call_listLK (K := K)) (by rfl) T.b_list (by decide +kernel) (pa_cons (pv 0) pa_nil)))))), ?_⟩
    obtain ⟨KK, EE, hK0, hE, hw⟩ := cW_gen hw
    have S0 := Sep.startG sG
    unfold F__vertical at hw
    obtain ⟨K471, hK472, hw⟩ := cW_push hw
    refine ⟨_, rfl, _, rfl, ⟨_, (SqL.of (S0.bM _ _ q_left))⟩, fun D473 n474 => lc_list (K := K) (a := a_left) (xs := (left' : List Int).map V.int) (fun i H' => ∃ (G' : Hp) (acc476 : (List (List Int))) (vs477 : List V) (L475 : List Addr), Same G G' ∧ Sep [] H G G' H' (D473 :: (L475 ++ [])) ∧ H' D473 = some (.lst vs477) ∧ OwAll G' H' L475 vs477 ((acc476 : (List (List Int))).map (oL oI)) ∧ (∀ b ∈ L475, H b = none) ∧ (∀ b ∈ L475, b ≠ D473) ∧ Same H H' ∧ cW (mapA (List.drop i (left')) acc476 (fun x => noEr (F__vertical_c1 (above') x))) K471 EE) ?_ ?_ ?_ ?_⟩
    · generalize g478 : upd H D473 _ = H479
      obtain ⟨e480, h481⟩ := gen_new n474 g478
      have fr482 := S0.free n474
      have S483 := S0.new n474 e480 h481 fr482
      exact ⟨_, [], [], [], Same.refl _, (S483.sub (all_cons (.head _) (all_app (L := []) all_nil all_nil))), h481, OwAll.nil, all_nil, all_nil, e480, hw⟩
    · intro i H484 _ hw
      obtain ⟨G487, acc489, vs490, L492, eG488, S485, h486, d491, nb493, nd494, eo495, hw⟩ := hw
      exact (SqL.of (S485.bM _ _ q_left))
    · intro i x H496 hj hw
      obtain ⟨G499, acc501, vs502, L504, eG500, S497, h498, d503, nb505, nd506, eo507, hw⟩ := hw
      obtain ⟨x508, hx, rfl⟩ := map_get hj
      obtain ⟨z509, hw⟩ := cW_mapA hx hw
      have hw := cW_noEr hw
      have hw : cW (F__vertical_c1 (above') (x508)) _ (fun _ => False) := hw
      unfold F__vertical_c1 at hw
      refine ⟨rfl, ?_⟩
      refine tyes_go ?_
      refine ⟨_, rfl, _, _, rfl, (SqL.of (S497.bM _ _ q_above)), fun p511 n512 => ?_⟩
      generalize g513 : upd H496 p511 _ = H514
      obtain ⟨e515, h516⟩ := gen_new n512 g513
      have h517 : H514 p511 = some (.lst ((above' : (List Int)).map V.int)) := h516
      have fr518 := S497.free n512
      have S519 := S497.new n512 e515 h517 fr518
      have w520 : OwAll G499 H514 L504 (vs502) ((acc501 : (List (List Int))).map (oL oI)) := (OwAll.mono (Same.refl _) (keeps_same e515) d503)
      have h521 := (e515 _ _ h498)
      refine ⟨_, h521, (app_len (OwAll.rpA w520 (encO_L encO_I) S519.sG) z509), ?_⟩
      generalize g522 : upd H514 D473 _ = H523
      obtain ⟨x524, h525⟩ := gen_mut g522
      have S526 := S519.mut1 x524 (.tail _ (.head _)) h525
      have hw := cW_ok hw
      exact ⟨_, (acc501 ++ [above']), _, (L504 ++ (p511 :: ([] : List Addr))), eG500, (S526.sub (all_cons (.tail _ (.head _)) (all_app (all_app ((fun b hb => (.tail _ (.tail _ (List.mem_append_left _ hb)))) : ∀ b ∈ L504, b ∈ (p511 :: (D473 :: (L504 ++ [])))) (all_cons (.head _) all_nil)) all_nil))), h525, (OwAll.mono (Same.refl _) (keeps_mut x524 ((all_app nd506 (all_cons (ne_of_none h498 n512).symm all_nil)) : ∀ b ∈ (L504 ++ (p511 :: ([] : List Addr))), b ≠ D473)) (OwAll.snocM w520 (Ow.ints h517) ((fun b hb => (nm_cons ((there_ne (fun b_ hb_ => (S497.ow b_ (((fun b hb => (.tail _ (List.mem_append_left _ hb))) : ∀ b ∈ L504, b ∈ (D473 :: (L504 ++ []))) b_ hb_)).2.1) n512) b hb) nm_nil)) : ∀ b ∈ L504, b ∉ (p511 :: ([] : List Addr))))), ((all_app nb505 (all_cons (none_of_same eo507 n512) all_nil)) : ∀ b ∈ (L504 ++ (p511 :: ([] : List Addr))), H b = none), ((all_app nd506 (all_cons (ne_of_none h498 n512).symm all_nil)) : ∀ b ∈ (L504 ++ (p511 :: ([] : List Addr))), b ≠ D473), (same_mut (Same.trans eo507 e515) x524 n474), hw⟩
    intro H527 hw
    obtain ⟨G530, acc532, vs533, L535, eG531, S528, h529, d534, nb536, nd537, eo538, hw⟩ := hw
    have hw := hK472 _ (cW_mapA0 (by rw [List.length_map]) hw)
    have fr539 := S0.free n474
    have hw := cW_ok hw
    exact hK0 _ hw _ _ _ _ _ fr539 ((fun b hb => Sep.h0 S528 (((fun b hb => (.tail _ (List.mem_append_left _ hb))) : ∀ b ∈ L535, b ∈ (D473 :: (L535 ++ []))) b hb) nm_nil) : ∀ b ∈ L535, H b = none) (nd537 : ∀ b ∈ L535, b ≠ D473) S528.b0 S528.g0 S528.sG S528.gn (S528.ow _ (.head _)).1 ((fun b hb => (S528.ow b (((fun b hb => (.tail _ (List.mem_append_left _ hb))) : ∀ b ∈ L535, b ∈ (D473 :: (L535 ++ []))) b hb)).1) : ∀ b ∈ L535, G530 b = none) h529 d534

abbrev N__horizontal : List Str := ["above", "left", "corner", "top", "sample"]
theorem sc__horizontal : FnScope N__horizontal ["above", "left", "corner", "top"] (defScope s__horizontal) := ⟨rfl, rfl, rfl, by decide +kernel, rfl, by decide +kernel, by decide +kernel⟩
theorem ok__horizontal (D : DefX K mg "_horizontal" s__horizontal ["above", "left", "corner", "top"] pats__horizontal) (T : Txt K mg AD)  : CalX P w K mg base 1 "_horizontal" (sp__horizontal K AD) pats__horizontal := by
  refine D.ok sc__horizontal (fun vs H Q E h => ?_) (fun f cdv A_ outer s H vs Q E hr h => ?_)
  · obtain ⟨G, a_above, above', a_left, left', corner', top', rfl, _⟩ := h
    rfl
  · obtain ⟨G, a_above, above', a_left, left', corner', top', rfl, sG, q_above, q_left, hw⟩ := h
    refine ⟨_, (pss_one (ps_ret (pe_lc (own := [("sample", 4)]) (g := gName 4) (by rfl) sc__horizontal.nd (pi_listK (K := K) (pv 1)) (blkOk_by (own := [("sample", 4)]) (N := N__horizontal) (sc := defScope s__horizontal) (by decide +kernel)) (fun _ _ _ _ _ => (pg_name (i := 4) sc__horizontal.nd rfl (Or.inl rfl))) (fun _ _ _ _ _ => pts_nil) (fun _ _ _ _ _ => (pe_op op_rep (pe_lst (pa_cons (pv 4) pa_nil)) (pe_callB (call_lenLiK (K := K)) (by rfl) T.b_len (by decide +kernel) (pa_cons (pv 0) pa_nil))))))), ?_⟩
    obtain ⟨KK, EE, hK0, hE, hw⟩ := cW_gen hw
    have S0 := Sep.startG sG
    unfold F__horizontal at hw
    obtain ⟨K542, hK543, hw⟩ := cW_push hw
    refine ⟨_, rfl, _, rfl, ⟨_, (SqL.of (S0.bM _ _ q_left))⟩, fun D544 n545 => lc_list (K := K) (a := a_left) (xs := (left' : List Int).map V.int) (fun i H' => ∃ (G' : Hp) (acc547 : (List (List Int))) (vs548 : List V) (L546 : List Addr), Same G G' ∧ Sep [] H G G' H' (D544 :: (L546 ++ [])) ∧ H' D544 = some (.lst vs548) ∧ OwAll G' H' L546 vs548 ((acc547 : (List (List Int))).map (oL oI)) ∧ (∀ b ∈ L546, H b = none) ∧ (∀ b ∈ L546, b ≠ D544) ∧ Same H H' ∧ cW (mapA (List.drop i (left')) acc547 (fun x => noEr (F__horizontal_c1 (above') x))) K542 EE) ?_ ?_ ?_ ?_⟩
    · generalize g549 : upd H D544 _ = H550
      obtain ⟨e551, h552⟩ := gen_new n545 g549
      have fr553 := S0.free n545
      have S554 := S0.new n545 e551 h552 fr553
      exact ⟨_, [], [], [], Same.refl _, (S554.sub (all_cons (.head _) (all_app (L := []) all_nil all_nil))), h552, OwAll.nil, all_nil, all_nil, e551, hw⟩
    · intro i H555 _ hw
      obtain ⟨G558, acc560, vs561, L563, eG559, S556, h557, d562, nb564, nd565, eo566, hw⟩ := hw
      exact (SqL.of (S556.bM _ _ q_left))
    · intro i x H567 hj hw
      obtain ⟨G570, acc572, vs573, L575, eG571, S568, h569, d574, nb576, nd577, eo578, hw⟩ := hw
      obtain ⟨x579, hx, rfl⟩ := map_get hj
      obtain ⟨z580, hw⟩ := cW_mapA hx hw
      have hw := cW_noEr hw
      have hw : cW (F__horizontal_c1 (above') (x579)) _ (fun _ => False) := hw
      unfold F__horizontal_c1 at hw
      refine ⟨rfl, ?_⟩
      refine tyes_go ?_
      refine ⟨_, rfl, (by show 1 ≤ sizeLine; decide), fun p582 n583 => ?_⟩
      generalize g584 : upd H567 p582 _ = H585
      obtain ⟨e586, h587⟩ := gen_new n583 g584
      have h588 : H585 p582 = some (.lst (([x579] : (List Int)).map V.int)) := h587
      have fr589 := S568.free n583
      have S590 := S568.new n583 e586 h588 fr589
      obtain ⟨g591, hw⟩ := cW_grd hw
      refine ⟨_, rfl, _, _, rfl, (SqL.of (S590.bM _ _ q_above)), _, _, _, rfl, rfl, h588, g591.1, g591.2.1, (rep_lenM g591.2.2), fun p592 n593 => ?_⟩
      generalize g594 : upd H585 p592 _ = H595
      obtain ⟨e596, h597⟩ := gen_new n593 g594
      have h598 : H595 p592 = some (.lst ((repL ([x579]) ((((above') : (List Int)).length : Int)) : (List Int)).map V.int)) := rep_map h597
      have fr599 := S590.free n593
      have S600 := S590.new n593 e596 h598 fr599
      have w601 : OwAll G570 H595 L575 (vs573) ((acc572 : (List (List Int))).map (oL oI)) := (OwAll.mono (Same.refl _) (keeps_same e596) (OwAll.mono (Same.refl _) (keeps_same e586) d574))
      have h602 := (e596 _ _ (e586 _ _ h569))
      refine ⟨_, h602, (app_len (OwAll.rpA w601 (encO_L encO_I) S600.sG) z580), ?_⟩
      generalize g603 : upd H595 D544 _ = H604
      obtain ⟨x605, h606⟩ := gen_mut g603
      have S607 := S600.mut1 x605 (.tail _ (.tail _ (.head _))) h606
      have hw := cW_ok hw
      exact ⟨_, (acc572 ++ [repL ([x579]) ((((above') : (List Int)).length : Int))]), _, (L575 ++ (p592 :: ([] : List Addr))), eG571, (S607.sub (all_cons (.tail _ (.tail _ (.head _))) (all_app (all_app ((fun b hb => (.tail _ (.tail _ (.tail _ (List.mem_append_left _ hb))))) : ∀ b ∈ L575, b ∈ (p592 :: (p582 :: (D544 :: (L575 ++ []))))) (all_cons (.head _) all_nil)) all_nil))), h606, (OwAll.mono (Same.refl _) (keeps_mut x605 ((all_app nd577 (all_cons (ne_of_none (e586 _ _ h569) n593).symm all_nil)) : ∀ b ∈ (L575 ++ (p592 :: ([] : List Addr))), b ≠ D544)) (OwAll.snocM w601 (Ow.ints h598) ((fun b hb => (nm_cons ((there_ne (fun b_ hb_ => (S590.ow b_ (((fun b hb => (.tail _ (.tail _ (List.mem_append_left _ hb)))) : ∀ b ∈ L575, b ∈ (p582 :: (D544 :: (L575 ++ [])))) b_ hb_)).2.1) n593) b hb) nm_nil)) : ∀ b ∈ L575, b ∉ (p592 :: ([] : List Addr))))), ((all_app nb576 (all_cons (none_of_same (Same.trans eo578 e586) n593) all_nil)) : ∀ b ∈ (L575 ++ (p592 :: ([] : List Addr))), H b = none), ((all_app nd577 (all_cons (ne_of_none (e586 _ _ h569) n593).symm all_nil)) : ∀ b ∈ (L575 ++ (p592 :: ([] : List Addr))), b ≠ D544), (same_mut (Same.trans (Same.trans eo578 e586) e596) x605 n545), hw⟩
    intro H608 hw
    obtain ⟨G611, acc613, vs614, L616, eG612, S609, h610, d615, nb617, nd618, eo619, hw⟩ := hw
    have hw := hK543 _ (cW_mapA0 (by rw [List.length_map]) hw)
    have fr620 := S0.free n545
    have hw := cW_ok hw
    exact hK0 _ hw _ _ _ _ _ fr620 ((fun b hb => Sep.h0 S609 (((fun b hb => (.tail _ (List.mem_append_left _ hb))) : ∀ b ∈ L616, b ∈ (D544 :: (L616 ++ []))) b hb) nm_nil) : ∀ b ∈ L616, H b = none) (nd618 : ∀ b ∈ L616, b ≠ D544) S609.b0 S609.g0 S609.sG S609.gn (S609.ow _ (.head _)).1 ((fun b hb => (S609.ow b (((fun b hb => (.tail _ (List.mem_append_left _ hb))) : ∀ b ∈ L616, b ∈ (D544 :: (L616 ++ []))) b hb)).1) : ∀ b ∈ L616, G611 b = none) h610 d615

abbrev N__smooth : List Str := ["above", "left", "corner", "top", "n", "shift", "rows", "j", "low", "i"]
theorem sc__smooth : FnScope N__smooth ["above", "left", "corner", "top"] (defScope s__smooth) := ⟨rfl, rfl, rfl, by decide +kernel, rfl, by decide +kernel, by decide +kernel⟩
theorem ok__smooth (D : DefX K mg "_smooth" s__smooth ["above", "left", "corner", "top"] pats__smooth) (T : Txt K mg AD) (c__mean_shift : CalX P w K mg base 1 "_mean_shift" (sp__mean_shift K AD) pats__mean_shift) : CalX P w K mg base 2 "_smooth" (sp__smooth K AD) pats__smooth := by
  refine D.ok sc__smooth (fun vs H Q E h => ?_) (fun f cdv A_ outer s H vs Q E hr h => ?_)
  · obtain ⟨G, a_above, above', a_left, left', corner', top', rfl, _⟩ := h
    rfl
  · obtain ⟨G, a_above, above', a_left, left', corner', top', rfl, sG, q_above, q_left, hw⟩ := h
    refine ⟨_, (pss_cons (ps_set (i := 4) sc__smooth.nd rfl (Or.inr rfl) (pe_callB (call_lenLiK (K := K)) (by rfl) T.b_len (by decide +kernel) (pa_cons (pv 0) pa_nil)))
      (pss_cons (ps_set (i := 5) sc__smooth.nd rfl (Or.inr rfl) (vx_callX c__mean_shift pat__mean_shift_0 (.head _) hr (by decide) (takes_of rfl rfl rfl rfl) rfl (pa_cons (pv 4) pa_nil) pk_nil))
      (pss_cons (ps_set (i := 6) sc__smooth.nd rfl (Or.inl rfl) (pe_lst pa_nil))
      (pss_cons (ps_for (passes_of rfl) rfl (pi_range1 rfl T.b_range (pa_cons (pv 4) pa_nil)) (pg_name (i := 7) sc__smooth.nd rfl (Or.inr rfl)) (pss_cons (ps_set (i := 8) sc__smooth.nd rfl (Or.inr rfl) (pe_op op_add (pe_op op_mul (pe_op op_add (pv 7) pe_int) (pe_ix (ix_listK (K := K)) (pv 1) (pe_op op_sub (pv 4) pe_int) (fun _ _ => rfl))) (pv 4)))
      (pss_one (ps_expr (pe_bm PySem.F.plainAttrs_list PySem.F.slot_list_append PySem.F.type_list_append mt_append (pv 6) (pa_cons (pe_lc (own := [("i", 9)]) (g := gName 9) (by rfl) sc__smooth.nd (pi_range1 rfl T.b_range (pa_cons (pv 4) pa_nil)) (blkOk_by (own := [("i", 9)]) (N := N__smooth) (sc := defScope s__smooth) (by decide +kernel)) (fun _ _ _ _ _ => (pg_name (i := 9) sc__smooth.nd rfl (Or.inl rfl))) (fun _ _ _ _ _ => pts_nil) (fun _ _ _ _ _ => (pe_op op_shr (pe_op op_add (pe_op op_add (pe_op op_add (pe_op op_mul (pe_op op_sub (pe_op op_sub (pv 4) pe_int) (pv 7)) (pe_ix (ix_listK (K := K)) (pv 0) (pv 9) (fun _ _ => rfl))) (pv 8)) (pe_op op_mul (pe_op op_sub (pe_op op_sub (pv 4) pe_int) (pv 9)) (pe_ix (ix_listK (K := K)) (pv 1) (pv 7) (fun _ _ => rfl)))) (pe_op op_mul (pe_op op_add (pv 9) pe_int) (pe_ix (ix_listK (K := K)) (pv 0) (pe_op op_sub (pv 4) pe_int) (fun _ _ => rfl)))) (pv 5)))) pa_nil))))))
      (pss_one (ps_ret (pv 6))))))), ?_⟩
    obtain ⟨KK, EE, hK0, hE, hw⟩ := cW_gen hw
    have S0 := Sep.startG sG
    unfold F__smooth at hw
    refine ⟨_, rfl, _, _, rfl, (SqL.of (S0.bM _ _ q_above)), ?_⟩
    have hw := cW_bnd hw
    refine ⟨_, rfl, rfl, rfl, G, _, rfl, S0.sG, cW_call hw (fun v622 hw => ?_) (fun e he => hE e he _ S0.b0)⟩
    refine ⟨(by show 0 ≤ sizeLine; decide), fun p623 n624 => ?_⟩
    generalize g625 : upd H p623 _ = H626
    obtain ⟨e627, h628⟩ := gen_new n624 g625
    have h629 : H626 p623 = some (.lst ([])) := h628
    have fr630 := S0.free n624
    have S631 := S0.new n624 e627 h629 fr630
    have w632 : OwAll G H626 ([] : List Addr) ([]) ((([] : (List (List Int))) : (List (List Int))).map (oL oI)) := (OwAll.nil : OwAll _ _ [] [] (([] : List (List Int)).map (oL oI)))
    obtain ⟨g633, hw⟩ := cW_grd hw
    obtain ⟨K638, hK639, hw⟩ := cW_push hw
    refine ⟨_, rfl, _, rfl, g633.1, g633.2, for_range (lo := 0) (n := Int.toNat ((((above') : (List Int)).length : Int))) (fun i σ H' => ∃ (rows_640 : (List (List Int))) (vs641 : List V) (L642 : List Addr) (u643 : Option V) (u644 : Option V) (G' : Hp), σ = [some (V.ref a_above), some (V.ref a_left), some (V.int (corner')), some (V.int (top')), some (V.int ((((above') : (List Int)).length : Int))), some (V.int (v622)), some (V.ref p623), u643, u644, none] ∧ Same G G' ∧ Sep [] H G G' H' (p623 :: (L642 ++ [])) ∧ H' p623 = some (.lst (vs641)) ∧ (∀ b ∈ L642, b ≠ p623) ∧ OwAll G' H' L642 (vs641) ((rows_640 : (List (List Int))).map (oL oI)) ∧ cW (forS (List.drop i (rng (0) (Int.toNat ((((above') : (List Int)).length : Int))))) rows_640 (fun s x => F__smooth_b1 (above') (left') ((((above') : (List Int)).length : Int)) (v622) s x)) K638 EE) ?_ ?_ ?_⟩
    · exact ⟨(([] : (List (List Int)))), ([]), ([] : List Addr), _, _, _, rfl, (Same.refl _), (S631.sub (all_cons (.head _) (all_app all_nil all_nil))), h629, all_nil, w632, hw⟩
    · intro i σ H645 hi hw
      obtain ⟨rows_640, vs641, L642, u643, u644, G650, rfl, eG651, S646, h647, ne648, w649, hw⟩ := hw
      have hw := cW_forS (rng_get hi) hw
      generalize (0 + (i : Int)) = x652 at hw ⊢
      have hw : cW (F__smooth_b1 (above') (left') ((((above') : (List Int)).length : Int)) (v622) (rows_640) (x652)) _ EE := hw
      unfold F__smooth_b1 at hw
      obtain ⟨K654, hK655, hw⟩ := cW_name hw
      obtain ⟨g657, hw⟩ := cW_grd hw
      obtain ⟨g658, hw⟩ := cW_grd hw
      refine ⟨_, rfl, _, _, rfl, rfl, _, rfl, _, rfl, _, _, rfl, rfl, _, _, _, _, rfl, rfl, (SqL.of (S646.bM _ _ q_left)), (atI_map g657), _, _, rfl, rfl, g658, _, rfl, _, _, rfl, rfl, ?_⟩
      have hw := cW_bnd hw
      obtain ⟨g660, hw⟩ := cW_grd hw
      obtain ⟨K668, hK669, hw⟩ := cW_push hw
      refine ⟨_, rfl, (.inl ⟨rfl, _, SqL.of h647⟩), _, rfl, _, rfl, g660.1, g660.2, fun D670 n671 => lc_range (lo := 0) (n := Int.toNat ((((above') : (List Int)).length : Int))) (fun i H' => ∃ (G' : Hp) (acc673 : (List Int)), Same G650 G' ∧ Sep [] H G G' H' (D670 :: (p623 :: (L642 ++ []))) ∧ H' p623 = some (.lst (vs641)) ∧ H' D670 = some (.lst ((acc673 : (List Int)).map V.int)) ∧ OwAll G' H' L642 (vs641) ((rows_640 : (List (List Int))).map (oL oI)) ∧ Same H645 H' ∧ cW (mapA (List.drop i (rng (0) (Int.toNat ((((above') : (List Int)).length : Int))))) acc673 (fun x => noEr (F__smooth_c2 (above') (left') ((((above') : (List Int)).length : Int)) (v622) (x652) ((((x652 + 1) * (itD (left') (((((above') : (List Int)).length : Int) - 1)))) + (((above') : (List Int)).length : Int))) x))) K668 EE) ?_ ?_ ?_⟩
      · generalize g675 : upd H645 D670 _ = H676
        obtain ⟨e677, h678⟩ := gen_new n671 g675
        have fr679 := S646.free n671
        have S680 := S646.new n671 e677 h678 fr679
        have h681 := (e677 _ _ h647)
        have w682 : OwAll G650 H676 L642 (vs641) ((rows_640 : (List (List Int))).map (oL oI)) := (OwAll.mono (Same.refl _) (keeps_same e677) w649)
        exact ⟨_, [], Same.refl _, S680, h681, h678, w682, e677, hw⟩
      · intro i H683 hi hw
        obtain ⟨G686, acc688, eG687, S684, h695, h685, w696, eo694, hw⟩ := hw
        obtain ⟨z697, hw⟩ := cW_mapA (rng_get hi) hw
        generalize (0 + (i : Int)) = x698 at hw ⊢
        have hw := cW_noEr hw
        have hw : cW (F__smooth_c2 (above') (left') ((((above') : (List Int)).length : Int)) (v622) (x652) ((((x652 + 1) * (itD (left') (((((above') : (List Int)).length : Int) - 1)))) + (((above') : (List Int)).length : Int))) (x698)) _ (fun _ => False) := hw
        unfold F__smooth_c2 at hw
        refine ⟨rfl, ?_⟩
        refine tyes_go ?_
        obtain ⟨g700, hw⟩ := cW_grd hw
        obtain ⟨g701, hw⟩ := cW_grd hw
        obtain ⟨g702, hw⟩ := cW_grd hw
        obtain ⟨g703, hw⟩ := cW_grd hw
        obtain ⟨g704, hw⟩ := cW_grd hw
        obtain ⟨g705, hw⟩ := cW_grd hw
        obtain ⟨g706, hw⟩ := cW_grd hw
        refine ⟨_, rfl, _, _, rfl, rfl, _, rfl, _, _, rfl, rfl, _, rfl, _, rfl, _, _, _, _, rfl, rfl, (SqL.of (S684.bM _ _ q_above)), (atI_map g700), _, _, rfl, rfl, g701, _, rfl, _, _, rfl, rfl, _, rfl, _, _, rfl, rfl, _, rfl, _, _, rfl, rfl, _, rfl, _, rfl, _, _, _, _, rfl, rfl, (SqL.of (S684.bM _ _ q_left)), (atI_map g702), _, _, rfl, rfl, g703, _, _, rfl, rfl, _, rfl, _, _, rfl, rfl, _, rfl, _, rfl, _, _, rfl, rfl, _, _, _, _, rfl, rfl, (SqL.of (S684.bM _ _ q_above)), (atI_map g704), _, _, rfl, rfl, g705, _, _, rfl, rfl, _, rfl, _, _, rfl, rfl, g706, _, h685, (app_lenM z697), ?_⟩
        generalize g707 : upd H683 D670 _ = H708
        obtain ⟨x709, h710⟩ := gen_mut g707
        have S711 := S684.mut1 x709 (.head _) h710
        have hw := cW_ok hw
        have h712 := (x709 _ _ h695 (ne_of_none h647 n671))
        have w713 : OwAll G686 H708 L642 (vs641) ((rows_640 : (List (List Int))).map (oL oI)) := (OwAll.mono (Same.refl _) (keeps_mut x709 ((there_ne (fun b_ hb_ => (S646.ow b_ (((fun b hb => (.tail _ (List.mem_append_left _ hb))) : ∀ b ∈ L642, b ∈ (p623 :: (L642 ++ []))) b_ hb_)).2.1) n671) : ∀ b ∈ L642, b ≠ D670)) w696)
        exact ⟨_, (acc688 ++ [((((((((((above') : (List Int)).length : Int) - 1) - x652) * (itD (above') (x698))) + (((x652 + 1) * (itD (left') (((((above') : (List Int)).length : Int) - 1)))) + (((above') : (List Int)).length : Int))) + ((((((above') : (List Int)).length : Int) - 1) - x698) * (itD (left') (x652)))) + ((x698 + 1) * (itD (above') (((((above') : (List Int)).length : Int) - 1))))) / 2 ^ Int.toNat (v622))]), eG687, S711, h712, (snoc_map h710), w713, (same_mut eo694 x709 n671), hw⟩
      intro H714 hw
      obtain ⟨G717, acc719, eG718, S715, h726, h716, w727, eo725, hw⟩ := hw
      have hw := hK669 _ (cW_mapA0 (rng_len _ _).symm hw)
      have fr728 := S646.free n671
      obtain ⟨g729, hw⟩ := cW_grd hw
      refine ⟨_, _, _, rfl, rfl, h726, (app_len (OwAll.rpA w727 (encO_L encO_I) S715.sG) g729), ?_⟩
      generalize g730 : upd H714 p623 _ = H731
      obtain ⟨x732, h733⟩ := gen_mut g730
      have h734 : H731 p623 = some (.lst (vs641 ++ [V.ref D670])) := h733
      have S735 := S715.mut1 x732 (.tail _ (.head _)) h734
      have w736 : OwAll G717 H731 (L642 ++ (D670 :: ([] : List Addr))) (vs641 ++ [V.ref D670]) (((rows_640) ++ [acc719] : (List (List Int))).map (oL oI)) := OwAll.mono (Same.refl _) (keeps_mut x732 ((all_app ne648 (all_cons (ne_of_none h647 n671).symm all_nil)) : ∀ b ∈ (L642 ++ (D670 :: ([] : List Addr))), b ≠ p623)) (OwAll.snocM w727 (Ow.ints h716) ((fun b hb => (nm_cons ((there_ne (fun b_ hb_ => (S646.ow b_ (((fun b hb => (.tail _ (List.mem_append_left _ hb))) : ∀ b ∈ L642, b ∈ (p623 :: (L642 ++ []))) b_ hb_)).2.1) n671) b hb) nm_nil)) : ∀ b ∈ L642, b ∉ (D670 :: ([] : List Addr))))
      have hw := cW_bnd hw
      have hw := cW_ok hw
      have hw := hK655 _ hw
      exact ⟨((rows_640) ++ [acc719]), (vs641 ++ [V.ref D670]), (L642 ++ (D670 :: ([] : List Addr))), _, _, _, rfl, (Same.trans eG651 eG718), (S735.sub (all_cons (.tail _ (.head _)) (all_app (all_app ((fun b hb => (.tail _ (.tail _ (List.mem_append_left _ hb)))) : ∀ b ∈ L642, b ∈ (D670 :: (p623 :: (L642 ++ [])))) (all_cons (.head _) all_nil)) all_nil))), h734, (all_app ne648 (all_cons (ne_of_none h647 n671).symm all_nil)), w736, hw⟩
    · intro σ H738 hw
      obtain ⟨rows_640, vs641, L642, u643, u644, G743, rfl, eG744, S739, h740, ne741, w742, hw⟩ := hw
      have hw := hK639 _ (cW_forS0 (rng_len _ _).symm hw)
      have hw : cW (F__smooth_r1  (rows_640)) _ EE := hw
      unfold F__smooth_r1 at hw
      refine ⟨_, rfl, ?_⟩
      have hw := cW_ok hw
      exact hK0 _ hw _ _ _ _ _ fr630 ((fun b hb => Sep.h0 S739 (((fun b hb => (.tail _ (List.mem_append_left _ hb))) : ∀ b ∈ L642, b ∈ (p623 :: (L642 ++ []))) b hb) nm_nil) : ∀ b ∈ L642, H b = none) (ne741 : ∀ b ∈ L642, b ≠ p623) S739.b0 S739.g0 S739.sG S739.gn (S739.ow _ (.head _)).1 ((fun b hb => (S739.ow b (((fun b hb => (.tail _ (List.mem_append_left _ hb))) : ∀ b ∈ L642, b ∈ (p623 :: (L642 ++ []))) b hb)).1) : ∀ b ∈ L642, G743 b = none) h740 w742

abbrev N__nearest_of : List Str := ["side", "sample", "corner", "to_side", "to_sample", "to_corner"]
theorem sc__nearest_of : FnScope N__nearest_of ["side", "sample", "corner"] (defScope s__nearest_of) := ⟨rfl, rfl, rfl, by decide +kernel, rfl, by decide +kernel, by decide +kernel⟩
theorem ok__nearest_of (D : DefX K mg "_nearest_of" s__nearest_of ["side", "sample", "corner"] pats__nearest_of) (T : Txt K mg AD)  : CalX P w K mg base 1 "_nearest_of" (sp__nearest_of K AD) pats__nearest_of := by
  refine D.ok sc__nearest_of (fun vs H Q E h => ?_) (fun f cdv A_ outer s H vs Q E hr h => ?_)
  · obtain ⟨G, side', sample', corner', rfl, _⟩ := h
    rfl
  · obtain ⟨G, side', sample', corner', rfl, sG, hw⟩ := h
    refine ⟨_, (pss_cons (ps_set (i := 3) sc__nearest_of.nd rfl (Or.inl rfl) (pe_callB call_abs (by rfl) T.b_abs (by decide +kernel) (pa_cons (pe_op op_sub (pv 1) (pv 2)) pa_nil)))
      (pss_cons (ps_set (i := 4) sc__nearest_of.nd rfl (Or.inl rfl) (pe_callB call_abs (by rfl) T.b_abs (by decide +kernel) (pa_cons (pe_op op_sub (pv 0) (pv 2)) pa_nil)))
      (pss_cons (ps_set (i := 5) sc__nearest_of.nd rfl (Or.inl rfl) (pe_callB call_abs (by rfl) T.b_abs (by decide +kernel) (pa_cons (pe_op op_sub (pe_op op_add (pv 0) (pv 1)) (pe_op op_mul pe_int (pv 2))) pa_nil)))
      (pss_cons (ps_if (PW.pt (pw_and (pt_cmp (pc_le (pv 3) (pv 4))) (pw_and1 (pt_cmp (pc_le (pv 3) (pv 5)))))) (pss_one (ps_ret (pv 0))) pss_nil)
      (pss_one (ps_ret (pe_ifExp (pt_cmp (pc_le (pv 4) (pv 5))) (pv 1) (pv 2)))))))), ?_⟩
    obtain ⟨KK, EE, hK0, hE, hw⟩ := cW_gen hw
    have S0 := Sep.startG sG
    unfold F__nearest_of at hw
    refine ⟨_, rfl, _, rfl, _, _, rfl, rfl, _, rfl, ?_⟩
    have hw := cW_bnd hw
    refine ⟨_, rfl, _, rfl, _, _, rfl, rfl, _, rfl, ?_⟩
    have hw := cW_bnd hw
    refine ⟨_, rfl, _, rfl, _, _, rfl, rfl, _, rfl, _, _, rfl, rfl, (.inl ⟨by decide, by decide⟩), _, _, rfl, rfl, _, rfl, ?_⟩
    have hw := cW_bnd hw
    refine ⟨_, rfl, _, rfl, _, _, rfl, rfl, _, rfl, ?_⟩
    refine iteD (fun c749 => ?_) (fun c749 => ?_)
    · have hw := cW_pos c749 hw
      refine ⟨_, rfl, _, rfl, _, _, rfl, rfl, _, rfl, ?_⟩
      refine iteD (fun c750 => ?_) (fun c750 => ?_)
      · have hw := cW_pos c750 hw
        refine ⟨_, rfl, ?_⟩
        have hw := cW_ok hw
        exact hK0 _ hw
      · have hw := cW_neg c750 hw
        refine vv_if (vt_cmp (vv_cmp (val_var rfl) (val_var rfl) (fun Q q => ⟨_, _, rfl, rfl, q⟩))) (val_var rfl) (val_var rfl) _ ?_
        have hw := cW_ok hw
        exact hK0 _ hw
    · have hw := cW_neg c749 hw
      refine iteF ?_
      refine vv_if (vt_cmp (vv_cmp (val_var rfl) (val_var rfl) (fun Q q => ⟨_, _, rfl, rfl, q⟩))) (val_var rfl) (val_var rfl) _ ?_
      have hw := cW_ok hw
      exact hK0 _ hw

abbrev N__nearest : List Str := ["above", "left", "corner", "top", "side", "sample"]
theorem sc__nearest : FnScope N__nearest ["above", "left", "corner", "top"] (defScope s__nearest) := ⟨rfl, rfl, rfl, by decide +kernel, rfl, by decide +kernel, by decide +kernel⟩
theorem ok__nearest (D : DefX K mg "_nearest" s__nearest ["above", "left", "corner", "top"] pats__nearest) (T : Txt K mg AD) (c__nearest_of : CalX P w K mg base 1 "_nearest_of" (sp__nearest_of K AD) pats__nearest_of) : CalX P w K mg base 2 "_nearest" (sp__nearest K AD) pats__nearest := by
  refine D.ok sc__nearest (fun vs H Q E h => ?_) (fun f cdv A_ outer s H vs Q E hr h => ?_)
  · obtain ⟨G, a_above, above', a_left, left', corner', top', rfl, _⟩ := h
    rfl
  · obtain ⟨G, a_above, above', a_left, left', corner', top', rfl, sG, q_above, q_left, hw⟩ := h
    refine ⟨_, (pss_one (ps_ret (pe_lc (own := [("side", 4)]) (g := gName 4) (by rfl) sc__nearest.nd (pi_listK (K := K) (pv 1)) (blkOk_by (own := [("side", 4)]) (N := N__nearest) (sc := defScope s__nearest) (by decide +kernel)) (fun _ _ _ _ _ => (pg_name (i := 4) sc__nearest.nd rfl (Or.inr rfl))) (fun _ _ _ _ _ => pts_nil) (fun _ _ _ _ _ => (pe_lc (own := [("sample", 5)]) (g := gName 5) (by rfl) sc__nearest.nd (pi_listK (K := K) (pv 0)) (blk_relabel (blkOk_by (own := [("sample", 5)]) (N := N__nearest) (by decide +kernel))) (fun _ _ _ _ _ => (pg_name (i := 5) sc__nearest.nd rfl (Or.inl rfl))) (fun _ _ _ _ _ => pts_nil) (fun _ _ _ _ _ => (vx_callX c__nearest_of pat__nearest_of_0 (.head _) hr (by decide) takes0 rfl (pa_cons (pv 4) (pa_cons (pv 5) (pa_cons (pv 2) pa_nil))) pk_nil))))))), ?_⟩
    obtain ⟨KK, EE, hK0, hE, hw⟩ := cW_gen hw
    have S0 := Sep.startG sG
    unfold F__nearest at hw
    obtain ⟨K760, hK761, hw⟩ := cW_push hw
    refine ⟨_, rfl, _, rfl, ⟨_, (SqL.of (S0.bM _ _ q_left))⟩, fun D762 n763 => lc_list (K := K) (a := a_left) (xs := (left' : List Int).map V.int) (fun i H' => ∃ (G' : Hp) (acc765 : (List (List Int))) (vs766 : List V) (L764 : List Addr), Same G G' ∧ Sep [] H G G' H' (D762 :: (L764 ++ [])) ∧ H' D762 = some (.lst vs766) ∧ OwAll G' H' L764 vs766 ((acc765 : (List (List Int))).map (oL oI)) ∧ (∀ b ∈ L764, H b = none) ∧ (∀ b ∈ L764, b ≠ D762) ∧ Same H H' ∧ cW (mapA (List.drop i (left')) acc765 (fun x => noEr (F__nearest_c1 (above') (corner') x))) K760 EE) ?_ ?_ ?_ ?_⟩
    · generalize g767 : upd H D762 _ = H768
      obtain ⟨e769, h770⟩ := gen_new n763 g767
      have fr771 := S0.free n763
      have S772 := S0.new n763 e769 h770 fr771
      exact ⟨_, [], [], [], Same.refl _, (S772.sub (all_cons (.head _) (all_app (L := []) all_nil all_nil))), h770, OwAll.nil, all_nil, all_nil, e769, hw⟩
    · intro i H773 _ hw
      obtain ⟨G776, acc778, vs779, L781, eG777, S774, h775, d780, nb782, nd783, eo784, hw⟩ := hw
      exact (SqL.of (S774.bM _ _ q_left))
    · intro i x H785 hj hw
      obtain ⟨G788, acc790, vs791, L793, eG789, S786, h787, d792, nb794, nd795, eo796, hw⟩ := hw
      obtain ⟨x797, hx, rfl⟩ := map_get hj
      obtain ⟨z798, hw⟩ := cW_mapA hx hw
      have hw := cW_noEr hw
      have hw : cW (F__nearest_c1 (above') (corner') (x797)) _ (fun _ => False) := hw
      unfold F__nearest_c1 at hw
      refine ⟨rfl, ?_⟩
      refine tyes_go ?_
      obtain ⟨K803, hK804, hw⟩ := cW_push hw
      refine ⟨_, rfl, _, rfl, ⟨_, (SqL.of (S786.bM _ _ q_above))⟩, fun D805 n806 => lc_list (K := K) (a := a_above) (xs := (above' : List Int).map V.int) (fun i2 H' => ∃ (G' : Hp) (acc808 : (List Int)), Same G788 G' ∧ Sep [] H G G' H' (D805 :: (D762 :: (L793 ++ []))) ∧ H' D762 = some (.lst (vs791)) ∧ H' D805 = some (.lst ((acc808 : (List Int)).map V.int)) ∧ OwAll G' H' L793 (vs791) ((acc790 : (List (List Int))).map (oL oI)) ∧ Same H785 H' ∧ cW (mapA (List.drop i2 (above')) acc808 (fun x => noEr (F__nearest_c2 (corner') (x797) x))) K803 (fun _ => False)) ?_ ?_ ?_ ?_⟩
      · generalize g810 : upd H785 D805 _ = H811
        obtain ⟨e812, h813⟩ := gen_new n806 g810
        have fr814 := S786.free n806
        have S815 := S786.new n806 e812 h813 fr814
        have h816 := (e812 _ _ h787)
        have w817 : OwAll G788 H811 L793 (vs791) ((acc790 : (List (List Int))).map (oL oI)) := (OwAll.mono (Same.refl _) (keeps_same e812) d792)
        exact ⟨_, [], Same.refl _, S815, h816, h813, w817, e812, hw⟩
      · intro i2 H818 _ hw
        obtain ⟨G821, acc823, eG822, S819, h830, h820, w831, eo829, hw⟩ := hw
        exact (SqL.of (S819.bM _ _ q_above))
      · intro i2 x H832 hj hw
        obtain ⟨G835, acc837, eG836, S833, h844, h834, w845, eo843, hw⟩ := hw
        obtain ⟨x846, hx, rfl⟩ := map_get hj
        obtain ⟨z847, hw⟩ := cW_mapA hx hw
        have hw := cW_noEr hw
        have hw : cW (F__nearest_c2 (corner') (x797) (x846)) _ (fun _ => False) := hw
        unfold F__nearest_c2 at hw
        refine ⟨rfl, ?_⟩
        refine tyes_go ?_
        refine ⟨_, rfl, _, rfl, _, rfl, rfl, rfl, G835, _, _, _, rfl, S833.sG, cW_call hw (fun v849 hw => ?_) (fun e he => he.elim)⟩
        refine ⟨_, h834, (app_lenM z847), ?_⟩
        generalize g850 : upd H832 D805 _ = H851
        obtain ⟨x852, h853⟩ := gen_mut g850
        have S854 := S833.mut1 x852 (.head _) h853
        have hw := cW_ok hw
        have h855 := (x852 _ _ h844 (ne_of_none h787 n806))
        have w856 : OwAll G835 H851 L793 (vs791) ((acc790 : (List (List Int))).map (oL oI)) := (OwAll.mono (Same.refl _) (keeps_mut x852 ((there_ne (fun b_ hb_ => (S786.ow b_ (((fun b hb => (.tail _ (List.mem_append_left _ hb))) : ∀ b ∈ L793, b ∈ (D762 :: (L793 ++ []))) b_ hb_)).2.1) n806) : ∀ b ∈ L793, b ≠ D805)) w845)
        exact ⟨_, (acc837 ++ [v849]), eG836, S854, h855, (snoc_map h853), w856, (same_mut eo843 x852 n806), hw⟩
      intro H857 hw
      obtain ⟨G860, acc862, eG861, S858, h869, h859, w870, eo868, hw⟩ := hw
      have hw := hK804 _ (cW_mapA0 (by rw [List.length_map]) hw)
      have fr871 := S786.free n806
      refine ⟨_, h869, (app_len (OwAll.rpA w870 (encO_L encO_I) S858.sG) z798), ?_⟩
      generalize g872 : upd H857 D762 _ = H873
      obtain ⟨x874, h875⟩ := gen_mut g872
      have S876 := S858.mut1 x874 (.tail _ (.head _)) h875
      have hw := cW_ok hw
      exact ⟨_, (acc790 ++ [acc862]), _, (L793 ++ (D805 :: ([] : List Addr))), (Same.trans eG789 eG861), (S876.sub (all_cons (.tail _ (.head _)) (all_app (all_app ((fun b hb => (.tail _ (.tail _ (List.mem_append_left _ hb)))) : ∀ b ∈ L793, b ∈ (D805 :: (D762 :: (L793 ++ [])))) (all_cons (.head _) all_nil)) all_nil))), h875, (OwAll.mono (Same.refl _) (keeps_mut x874 ((all_app nd795 (all_cons (ne_of_none h787 n806).symm all_nil)) : ∀ b ∈ (L793 ++ (D805 :: ([] : List Addr))), b ≠ D762)) (OwAll.snocM w870 (Ow.ints h859) ((fun b hb => (nm_cons ((there_ne (fun b_ hb_ => (S786.ow b_ (((fun b hb => (.tail _ (List.mem_append_left _ hb))) : ∀ b ∈ L793, b ∈ (D762 :: (L793 ++ []))) b_ hb_)).2.1) n806) b hb) nm_nil)) : ∀ b ∈ L793, b ∉ (D805 :: ([] : List Addr))))), ((all_app nb794 (all_cons (none_of_same eo796 n806) all_nil)) : ∀ b ∈ (L793 ++ (D805 :: ([] : List Addr))), H b = none), ((all_app nd795 (all_cons (ne_of_none h787 n806).symm all_nil)) : ∀ b ∈ (L793 ++ (D805 :: ([] : List Addr))), b ≠ D762), (same_mut (Same.trans eo796 eo868) x874 n763), hw⟩
    intro H877 hw
    obtain ⟨G880, acc882, vs883, L885, eG881, S878, h879, d884, nb886, nd887, eo888, hw⟩ := hw
    have hw := hK761 _ (cW_mapA0 (by rw [List.length_map]) hw)
    have fr889 := S0.free n763
    have hw := cW_ok hw
    exact hK0 _ hw _ _ _ _ _ fr889 ((fun b hb => Sep.h0 S878 (((fun b hb => (.tail _ (List.mem_append_left _ hb))) : ∀ b ∈ L885, b ∈ (D762 :: (L885 ++ []))) b hb) nm_nil) : ∀ b ∈ L885, H b = none) (nd887 : ∀ b ∈ L885, b ≠ D762) S878.b0 S878.g0 S878.sG S878.gn (S878.ow _ (.head _)).1 ((fun b hb => (S878.ow b (((fun b hb => (.tail _ (List.mem_append_left _ hb))) : ∀ b ∈ L885, b ∈ (D762 :: (L885 ++ []))) b hb)).1) : ∀ b ∈ L885, G880 b = none) h879 d884

abbrev N_clip : List Str := ["value", "low", "high"]
theorem sc_clip : FnScope N_clip ["value", "low", "high"] (defScope s_clip) := ⟨rfl, rfl, rfl, by decide +kernel, rfl, by decide +kernel, by decide +kernel⟩
theorem ok_clip (D : DefX K mg "clip" s_clip ["value", "low", "high"] pats_clip) (T : Txt K mg AD)  : CalX P w K mg base 1 "clip" (sp_clip K AD) pats_clip := by
  refine D.ok sc_clip (fun vs H Q E h => ?_) (fun f cdv A_ outer s H vs Q E hr h => ?_)
  · obtain ⟨G, value', low', high', rfl, _⟩ := h
    rfl
  · obtain ⟨G, value', low', high', rfl, sG, hw⟩ := h
    refine ⟨_, (pss_one (ps_ret (pe_callB (call_min2 rfl) (by rfl) T.b_min (by decide +kernel) (pa_cons (pe_callB (call_max2 rfl) (by rfl) T.b_max (by decide +kernel) (pa_cons (pv 0) (pa_cons (pv 1) pa_nil))) (pa_cons (pv 2) pa_nil))))), ?_⟩
    obtain ⟨KK, EE, hK0, hE, hw⟩ := cW_gen hw
    have S0 := Sep.startG sG
    unfold F_clip at hw
    refine ⟨_, rfl, _, rfl, _, _, rfl, _, rfl, _, _, rfl, ?_⟩
    have hw := cW_ok hw
    exact hK0 _ hw

abbrev N__slope : List Str := ["above", "left", "corner", "top", "side", "sample"]
theorem sc__slope : FnScope N__slope ["above", "left", "corner", "top"] (defScope s__slope) := ⟨rfl, rfl, rfl, by decide +kernel, rfl, by decide +kernel, by decide +kernel⟩
theorem ok__slope (D : DefX K mg "_slope" s__slope ["above", "left", "corner", "top"] pats__slope) (T : Txt K mg AD) (c_clip : CalX P w K mg base 1 "clip" (sp_clip K AD) pats_clip) : CalX P w K mg base 2 "_slope" (sp__slope K AD) pats__slope := by
  refine D.ok sc__slope (fun vs H Q E h => ?_) (fun f cdv A_ outer s H vs Q E hr h => ?_)
  · obtain ⟨G, a_above, above', a_left, left', corner', top', rfl, _⟩ := h
    rfl
  · obtain ⟨G, a_above, above', a_left, left', corner', top', rfl, sG, q_above, q_left, hw⟩ := h
    refine ⟨_, (pss_one (ps_ret (pe_lc (own := [("side", 4)]) (g := gName 4) (by rfl) sc__slope.nd (pi_listK (K := K) (pv 1)) (blkOk_by (own := [("side", 4)]) (N := N__slope) (sc := defScope s__slope) (by decide +kernel)) (fun _ _ _ _ _ => (pg_name (i := 4) sc__slope.nd rfl (Or.inr rfl))) (fun _ _ _ _ _ => pts_nil) (fun _ _ _ _ _ => (pe_lc (own := [("sample", 5)]) (g := gName 5) (by rfl) sc__slope.nd (pi_listK (K := K) (pv 0)) (blk_relabel (blkOk_by (own := [("sample", 5)]) (N := N__slope) (by decide +kernel))) (fun _ _ _ _ _ => (pg_name (i := 5) sc__slope.nd rfl (Or.inl rfl))) (fun _ _ _ _ _ => pts_nil) (fun _ _ _ _ _ => (vx_callX c_clip pat_clip_0 (.head _) hr (by decide) takes0 rfl (pa_cons (pe_op op_sub (pe_op op_add (pv 4) (pv 5)) (pv 2)) (pa_cons pe_int (pa_cons (pv 3) pa_nil))) pk_nil))))))), ?_⟩
    obtain ⟨KK, EE, hK0, hE, hw⟩ := cW_gen hw
    have S0 := Sep.startG sG
    unfold F__slope at hw
    obtain ⟨K894, hK895, hw⟩ := cW_push hw
    refine ⟨_, rfl, _, rfl, ⟨_, (SqL.of (S0.bM _ _ q_left))⟩, fun D896 n897 => lc_list (K := K) (a := a_left) (xs := (left' : List Int).map V.int) (fun i H' => ∃ (G' : Hp) (acc899 : (List (List Int))) (vs900 : List V) (L898 : List Addr), Same G G' ∧ Sep [] H G G' H' (D896 :: (L898 ++ [])) ∧ H' D896 = some (.lst vs900) ∧ OwAll G' H' L898 vs900 ((acc899 : (List (List Int))).map (oL oI)) ∧ (∀ b ∈ L898, H b = none) ∧ (∀ b ∈ L898, b ≠ D896) ∧ Same H H' ∧ cW (mapA (List.drop i (left')) acc899 (fun x => noEr (F__slope_c1 (above') (corner') (top') x))) K894 EE) ?_ ?_ ?_ ?_⟩
    · generalize g901 : upd H D896 _ = H902
      obtain ⟨e903, h904⟩ := gen_new n897 g901
      have fr905 := S0.free n897
      have S906 := S0.new n897 e903 h904 fr905
      exact ⟨_, [], [], [], Same.refl _, (S906.sub (all_cons (.head _) (all_app (L := []) all_nil all_nil))), h904, OwAll.nil, all_nil, all_nil, e903, hw⟩
    · intro i H907 _ hw
      obtain ⟨G910, acc912, vs913, L915, eG911, S908, h909, d914, nb916, nd917, eo918, hw⟩ := hw
      exact (SqL.of (S908.bM _ _ q_left))
    · intro i x H919 hj hw
      obtain ⟨G922, acc924, vs925, L927, eG923, S920, h921, d926, nb928, nd929, eo930, hw⟩ := hw
      obtain ⟨x931, hx, rfl⟩ := map_get hj
      obtain ⟨z932, hw⟩ := cW_mapA hx hw
      have hw := cW_noEr hw
      have hw : cW (F__slope_c1 (above') (corner') (top') (x931)) _ (fun _ => False) := hw
      unfold F__slope_c1 at hw
      refine ⟨rfl, ?_⟩
      refine tyes_go ?_
      obtain ⟨K938, hK939, hw⟩ := cW_push hw
      refine ⟨_, rfl, _, rfl, ⟨_, (SqL.of (S920.bM _ _ q_above))⟩, fun D940 n941 => lc_list (K := K) (a := a_above) (xs := (above' : List Int).map V.int) (fun i2 H' => ∃ (G' : Hp) (acc943 : (List Int)), Same G922 G' ∧ Sep [] H G G' H' (D940 :: (D896 :: (L927 ++ []))) ∧ H' D896 = some (.lst (vs925)) ∧ H' D940 = some (.lst ((acc943 : (List Int)).map V.int)) ∧ OwAll G' H' L927 (vs925) ((acc924 : (List (List Int))).map (oL oI)) ∧ Same H919 H' ∧ cW (mapA (List.drop i2 (above')) acc943 (fun x => noEr (F__slope_c2 (corner') (top') (x931) x))) K938 (fun _ => False)) ?_ ?_ ?_ ?_⟩
      · generalize g945 : upd H919 D940 _ = H946
        obtain ⟨e947, h948⟩ := gen_new n941 g945
        have fr949 := S920.free n941
        have S950 := S920.new n941 e947 h948 fr949
        have h951 := (e947 _ _ h921)
        have w952 : OwAll G922 H946 L927 (vs925) ((acc924 : (List (List Int))).map (oL oI)) := (OwAll.mono (Same.refl _) (keeps_same e947) d926)
        exact ⟨_, [], Same.refl _, S950, h951, h948, w952, e947, hw⟩
      · intro i2 H953 _ hw
        obtain ⟨G956, acc958, eG957, S954, h965, h955, w966, eo964, hw⟩ := hw
        exact (SqL.of (S954.bM _ _ q_above))
      · intro i2 x H967 hj hw
        obtain ⟨G970, acc972, eG971, S968, h979, h969, w980, eo978, hw⟩ := hw
        obtain ⟨x981, hx, rfl⟩ := map_get hj
        obtain ⟨z982, hw⟩ := cW_mapA hx hw
        have hw := cW_noEr hw
        have hw : cW (F__slope_c2 (corner') (top') (x931) (x981)) _ (fun _ => False) := hw
        unfold F__slope_c2 at hw
        refine ⟨rfl, ?_⟩
        refine tyes_go ?_
        refine ⟨_, rfl, _, rfl, _, _, rfl, rfl, _, rfl, _, _, rfl, rfl, _, rfl, rfl, rfl, G970, _, _, _, rfl, S968.sG, cW_call hw (fun v984 hw => ?_) (fun e he => he.elim)⟩
        refine ⟨_, h969, (app_lenM z982), ?_⟩
        generalize g985 : upd H967 D940 _ = H986
        obtain ⟨x987, h988⟩ := gen_mut g985
        have S989 := S968.mut1 x987 (.head _) h988
        have hw := cW_ok hw
        have h990 := (x987 _ _ h979 (ne_of_none h921 n941))
        have w991 : OwAll G970 H986 L927 (vs925) ((acc924 : (List (List Int))).map (oL oI)) := (OwAll.mono (Same.refl _) (keeps_mut x987 ((there_ne (fun b_ hb_ => (S920.ow b_ (((fun b hb => (.tail _ (List.mem_append_left _ hb))) : ∀ b ∈ L927, b ∈ (D896 :: (L927 ++ []))) b_ hb_)).2.1) n941) : ∀ b ∈ L927, b ≠ D940)) w980)
        exact ⟨_, (acc972 ++ [v984]), eG971, S989, h990, (snoc_map h988), w991, (same_mut eo978 x987 n941), hw⟩
      intro H992 hw
      obtain ⟨G995, acc997, eG996, S993, h1004, h994, w1005, eo1003, hw⟩ := hw
      have hw := hK939 _ (cW_mapA0 (by rw [List.length_map]) hw)
      have fr1006 := S920.free n941
      refine ⟨_, h1004, (app_len (OwAll.rpA w1005 (encO_L encO_I) S993.sG) z932), ?_⟩
      generalize g1007 : upd H992 D896 _ = H1008
      obtain ⟨x1009, h1010⟩ := gen_mut g1007
      have S1011 := S993.mut1 x1009 (.tail _ (.head _)) h1010
      have hw := cW_ok hw
      exact ⟨_, (acc924 ++ [acc997]), _, (L927 ++ (D940 :: ([] : List Addr))), (Same.trans eG923 eG996), (S1011.sub (all_cons (.tail _ (.head _)) (all_app (all_app ((fun b hb => (.tail _ (.tail _ (List.mem_append_left _ hb)))) : ∀ b ∈ L927, b ∈ (D940 :: (D896 :: (L927 ++ [])))) (all_cons (.head _) all_nil)) all_nil))), h1010, (OwAll.mono (Same.refl _) (keeps_mut x1009 ((all_app nd929 (all_cons (ne_of_none h921 n941).symm all_nil)) : ∀ b ∈ (L927 ++ (D940 :: ([] : List Addr))), b ≠ D896)) (OwAll.snocM w1005 (Ow.ints h994) ((fun b hb => (nm_cons ((there_ne (fun b_ hb_ => (S920.ow b_ (((fun b hb => (.tail _ (List.mem_append_left _ hb))) : ∀ b ∈ L927, b ∈ (D896 :: (L927 ++ []))) b_ hb_)).2.1) n941) b hb) nm_nil)) : ∀ b ∈ L927, b ∉ (D940 :: ([] : List Addr))))), ((all_app nb928 (all_cons (none_of_same eo930 n941) all_nil)) : ∀ b ∈ (L927 ++ (D940 :: ([] : List Addr))), H b = none), ((all_app nd929 (all_cons (ne_of_none h921 n941).symm all_nil)) : ∀ b ∈ (L927 ++ (D940 :: ([] : List Addr))), b ≠ D896), (same_mut (Same.trans eo930 eo1003) x1009 n897), hw⟩
    intro H1012 hw
    obtain ⟨G1015, acc1017, vs1018, L1020, eG1016, S1013, h1014, d1019, nb1021, nd1022, eo1023, hw⟩ := hw
    have hw := hK895 _ (cW_mapA0 (by rw [List.length_map]) hw)
    have fr1024 := S0.free n897
    have hw := cW_ok hw
    exact hK0 _ hw _ _ _ _ _ fr1024 ((fun b hb => Sep.h0 S1013 (((fun b hb => (.tail _ (List.mem_append_left _ hb))) : ∀ b ∈ L1020, b ∈ (D896 :: (L1020 ++ []))) b hb) nm_nil) : ∀ b ∈ L1020, H b = none) (nd1022 : ∀ b ∈ L1020, b ≠ D896) S1013.b0 S1013.g0 S1013.sG S1013.gn (S1013.ow _ (.head _)).1 ((fun b hb => (S1013.ow b (((fun b hb => (.tail _ (List.mem_append_left _ hb))) : ∀ b ∈ L1020, b ∈ (D896 :: (L1020 ++ []))) b hb)).1) : ∀ b ∈ L1020, G1015 b = none) h1014 d1019

abbrev N__means : List Str := ["samples", "k"]
theorem sc__means : FnScope N__means ["samples"] (defScope s__means) := ⟨rfl, rfl, rfl, by decide +kernel, rfl, by decide +kernel, by decide +kernel⟩
theorem ok__means (D : DefX K mg "_means" s__means ["samples"] pats__means) (T : Txt K mg AD)  : CalX P w K mg base 1 "_means" (sp__means K AD) pats__means := by
  refine D.ok sc__means (fun vs H Q E h => ?_) (fun f cdv A_ outer s H vs Q E hr h => ?_)
  · obtain ⟨G, a_samples, samples', rfl, _⟩ := h
    rfl
  · obtain ⟨G, a_samples, samples', rfl, sG, q_samples, hw⟩ := h
    refine ⟨_, (pss_one (ps_ret (pe_lc (own := [("k", 1)]) (g := gName 1) (by rfl) sc__means.nd (pi_range2 rfl T.b_range (pa_cons pe_int (pa_cons (pe_op op_sub (pe_callB (call_lenLiK (K := K)) (by rfl) T.b_len (by decide +kernel) (pa_cons (pv 0) pa_nil)) pe_int) pa_nil))) (blkOk_by (own := [("k", 1)]) (N := N__means) (sc := defScope s__means) (by decide +kernel)) (fun _ _ _ _ _ => (pg_name (i := 1) sc__means.nd rfl (Or.inl rfl))) (fun _ _ _ _ _ => pts_nil) (fun _ _ _ _ _ => (pe_op op_shr (pe_op op_add (pe_op op_add (pe_op op_add (pe_ix (ix_listK (K := K)) (pv 0) (pe_op op_sub (pv 1) pe_int) (fun _ _ => rfl)) (pe_op op_mul pe_int (pe_ix (ix_listK (K := K)) (pv 0) (pv 1) (fun _ _ => rfl)))) (pe_ix (ix_listK (K := K)) (pv 0) (pe_op op_add (pv 1) pe_int) (fun _ _ => rfl))) pe_int) pe_int))))), ?_⟩
    obtain ⟨KK, EE, hK0, hE, hw⟩ := cW_gen hw
    have S0 := Sep.startG sG
    unfold F__means at hw
    obtain ⟨g1025, hw⟩ := cW_grd hw
    obtain ⟨K1028, hK1029, hw⟩ := cW_push hw
    refine ⟨_, rfl, _, _, rfl, (SqL.of (S0.bM _ _ q_samples)), _, _, rfl, rfl, _, _, rfl, g1025, fun D1030 n1031 => lc_range (lo := 1) (n := Int.toNat (((((samples') : (List Int)).length : Int) - 1) - 1)) (fun i H' => ∃ (G' : Hp) (acc1033 : (List Int)), Same G G' ∧ Sep [] H G G' H' [D1030] ∧ H' D1030 = some (.lst ((acc1033 : (List Int)).map V.int)) ∧ Same H H' ∧ cW (mapA (List.drop i (rng (1) (Int.toNat (((((samples') : (List Int)).length : Int) - 1) - 1)))) acc1033 (fun x => noEr (F__means_c1 (samples') x))) K1028 EE) ?_ ?_ ?_⟩
    · generalize g1035 : upd H D1030 _ = H1036
      obtain ⟨e1037, h1038⟩ := gen_new n1031 g1035
      have fr1039 := S0.free n1031
      have S1040 := S0.new n1031 e1037 h1038 fr1039
      exact ⟨_, [], Same.refl _, S1040, h1038, e1037, hw⟩
    · intro i H1041 hi hw
      obtain ⟨G1044, acc1046, eG1045, S1042, h1043, eo1052, hw⟩ := hw
      obtain ⟨z1053, hw⟩ := cW_mapA (rng_get hi) hw
      generalize (1 + (i : Int)) = x1054 at hw ⊢
      have hw := cW_noEr hw
      have hw : cW (F__means_c1 (samples') (x1054)) _ (fun _ => False) := hw
      unfold F__means_c1 at hw
      refine ⟨rfl, ?_⟩
      refine tyes_go ?_
      obtain ⟨g1056, hw⟩ := cW_grd hw
      obtain ⟨g1057, hw⟩ := cW_grd hw
      obtain ⟨g1058, hw⟩ := cW_grd hw
      refine ⟨_, rfl, _, rfl, _, _, rfl, rfl, _, _, _, _, rfl, rfl, (SqL.of (S1042.bM _ _ q_samples)), (atI_map g1056), _, rfl, _, rfl, _, _, _, _, rfl, rfl, (SqL.of (S1042.bM _ _ q_samples)), (atI_map g1057), _, _, rfl, rfl, (.inl ⟨by decide, by decide⟩), _, _, rfl, rfl, _, rfl, _, rfl, _, _, rfl, rfl, _, _, _, _, rfl, rfl, (SqL.of (S1042.bM _ _ q_samples)), (atI_map g1058), _, _, rfl, rfl, _, _, rfl, rfl, _, _, rfl, rfl, (show (0 : Int) ≤ 2 by decide), _, h1043, (app_lenM z1053), ?_⟩
      generalize g1059 : upd H1041 D1030 _ = H1060
      obtain ⟨x1061, h1062⟩ := gen_mut g1059
      have S1063 := S1042.mut1 x1061 (.head _) h1062
      have hw := cW_ok hw
      exact ⟨_, (acc1046 ++ [(((((itD (samples') ((x1054 - 1))) + (2 * (itD (samples') (x1054)))) + (itD (samples') ((x1054 + 1)))) + 2) / 4)]), eG1045, S1063, (snoc_map h1062), (same_mut eo1052 x1061 n1031), hw⟩
    intro H1064 hw
    obtain ⟨G1067, acc1069, eG1068, S1065, h1066, eo1075, hw⟩ := hw
    have hw := hK1029 _ (cW_mapA0 (rng_len _ _).symm hw)
    have fr1076 := S0.free n1031
    have hw := cW_ok hw
    exact hK0 _ hw _ _ fr1076 S1065.b0 h1066

abbrev N__down_right : List Str := ["above", "left", "corner", "top", "n", "means", "j"]
theorem sc__down_right : FnScope N__down_right ["above", "left", "corner", "top"] (defScope s__down_right) := ⟨rfl, rfl, rfl, by decide +kernel, rfl, by decide +kernel, by decide +kernel⟩
theorem ok__down_right (D : DefX K mg "_down_right" s__down_right ["above", "left", "corner", "top"] pats__down_right) (T : Txt K mg AD) (c__means : CalX P w K mg base 1 "_means" (sp__means K AD) pats__means) : CalX P w K mg base 2 "_down_right" (sp__down_right K AD) pats__down_right := by
  refine D.ok sc__down_right (fun vs H Q E h => ?_) (fun f cdv A_ outer s H vs Q E hr h => ?_)
  · obtain ⟨G, a_above, above', a_left, left', corner', top', rfl, _⟩ := h
    rfl
  · obtain ⟨G, a_above, above', a_left, left', corner', top', rfl, sG, q_above, q_left, hw⟩ := h
    refine ⟨_, (pss_cons (ps_set (i := 4) sc__down_right.nd rfl (Or.inr rfl) (pe_callB (call_lenLiK (K := K)) (by rfl) T.b_len (by decide +kernel) (pa_cons (pv 0) pa_nil)))
      (pss_cons (ps_set (i := 5) sc__down_right.nd rfl (Or.inr rfl) (vx_callX c__means pat__means_0 (.head _) hr (by decide) (takes_of rfl rfl rfl rfl) rfl (pa_cons (pe_op op_cat (pe_op op_cat (pe_revLK (K := K) (pv 1)) (pe_lst (pa_cons (pv 2) pa_nil))) (pv 0)) pa_nil) pk_nil))
      (pss_one (ps_ret (pe_lc (own := [("j", 6)]) (g := gName 6) (by rfl) sc__down_right.nd (pi_range1 rfl T.b_range (pa_cons (pv 4) pa_nil)) (blkOk_by (own := [("j", 6)]) (N := N__down_right) (sc := defScope s__down_right) (by decide +kernel)) (fun _ _ _ _ _ => (pg_name (i := 6) sc__down_right.nd rfl (Or.inl rfl))) (fun _ _ _ _ _ => pts_nil) (fun _ _ _ _ _ => (pe_slice (sl_listK (K := K)) (pv 5) (po_some (pe_op op_sub (pe_op op_sub (pv 4) pe_int) (pv 6))) (po_some (pe_op op_sub (pe_op op_sub (pe_op op_mul pe_int (pv 4)) pe_int) (pv 6)))))))))), ?_⟩
    obtain ⟨KK, EE, hK0, hE, hw⟩ := cW_gen hw
    have S0 := Sep.startG sG
    unfold F__down_right at hw
    refine ⟨_, rfl, _, _, rfl, (SqL.of (S0.bM _ _ q_above)), ?_⟩
    have hw := cW_bnd hw
    refine ⟨_, rfl, _, _, rfl, (SqL.of (S0.bM _ _ q_left)), fun p1078 n1079 => ?_⟩
    generalize g1080 : upd H p1078 _ = H1081
    obtain ⟨e1082, h1083⟩ := gen_new n1079 g1080
    have h1084 : H1081 p1078 = some (.lst (((left').reverse : (List Int)).map V.int)) := rev_map h1083
    have fr1085 := S0.free n1079
    have S1086 := S0.new n1079 e1082 h1084 fr1085
    refine ⟨_, rfl, (by show 1 ≤ sizeLine; decide), fun p1087 n1088 => ?_⟩
    generalize g1089 : upd H1081 p1087 _ = H1090
    obtain ⟨e1091, h1092⟩ := gen_new n1088 g1089
    have h1093 : H1090 p1087 = some (.lst (([corner'] : (List Int)).map V.int)) := h1092
    have fr1094 := S1086.free n1088
    have S1095 := S1086.new n1088 e1091 h1093 fr1094
    obtain ⟨g1096, hw⟩ := cW_grd hw
    have h1097 := (e1091 _ _ h1084)
    refine ⟨_, _, _, _, rfl, rfl, h1097, h1093, (cat_lenM g1096), fun p1098 n1099 => ?_⟩
    generalize g1100 : upd H1090 p1098 _ = H1101
    obtain ⟨e1102, h1103⟩ := gen_new n1099 g1100
    have h1104 : H1101 p1098 = some (.lst ((((left').reverse) ++ ([corner']) : (List Int)).map V.int)) := cat_map h1103
    have fr1105 := S1095.free n1099
    have S1106 := S1095.new n1099 e1102 h1104 fr1105
    obtain ⟨g1107, hw⟩ := cW_grd hw
    refine ⟨_, rfl, _, _, _, _, rfl, rfl, h1104, (S1106.bM _ _ q_above), (cat_lenM g1107), fun p1108 n1109 => ?_⟩
    generalize g1110 : upd H1101 p1108 _ = H1111
    obtain ⟨e1112, h1113⟩ := gen_new n1109 g1110
    have h1114 : H1111 p1108 = some (.lst (((((left').reverse) ++ ([corner'])) ++ (above') : (List Int)).map V.int)) := cat_map h1113
    have fr1115 := S1106.free n1109
    have S1116 := S1106.new n1109 e1112 h1114 fr1115
    refine ⟨rfl, rfl, G, _, _, rfl, S1116.sG, (hide_nil h1114), cW_call hw (fun v1117 hw p1120 H1118 n1121 e1119 h1122 => ?_) (fun e he H2 e2 => hE e he H2 (Same.trans S1116.b0 e2))⟩
    have h1123 : H1118 p1120 = some (.lst ((v1117 : (List Int)).map V.int)) := h1122
    have fr1124 := S1116.free n1121
    have S1125 := S1116.new n1121 e1119 h1123 fr1124
    obtain ⟨g1126, hw⟩ := cW_grd hw
    obtain ⟨K1130, hK1131, hw⟩ := cW_push hw
    refine ⟨_, rfl, _, rfl, g1126.1, g1126.2, fun D1132 n1133 => lc_range (lo := 0) (n := Int.toNat ((((above') : (List Int)).length : Int))) (fun i H' => ∃ (G' : Hp) (acc1135 : (List (List Int))) (vs1136 : List V) (L1134 : List Addr), Same G G' ∧ Sep [] H G G' H' (D1132 :: (L1134 ++ (p1120 :: []))) ∧ H' p1120 = some (.lst ((v1117 : (List Int)).map V.int)) ∧ H' D1132 = some (.lst vs1136) ∧ OwAll G' H' L1134 vs1136 ((acc1135 : (List (List Int))).map (oL oI)) ∧ (∀ b ∈ L1134, H1118 b = none) ∧ (∀ b ∈ L1134, b ≠ D1132) ∧ Same H1118 H' ∧ cW (mapA (List.drop i (rng (0) (Int.toNat ((((above') : (List Int)).length : Int))))) acc1135 (fun x => noEr (F__down_right_c1 ((((above') : (List Int)).length : Int)) (v1117) x))) K1130 EE) ?_ ?_ ?_⟩
    · generalize g1137 : upd H1118 D1132 _ = H1138
      obtain ⟨e1139, h1140⟩ := gen_new n1133 g1137
      have fr1141 := S1125.free n1133
      have S1142 := S1125.new n1133 e1139 h1140 fr1141
      have h1143 := (e1139 _ _ h1123)
      exact ⟨_, [], [], [], Same.refl _, (S1142.sub (all_cons (.head _) (all_app (L := []) all_nil (all_cons (.tail _ (.head _)) all_nil)))), h1143, h1140, OwAll.nil, all_nil, all_nil, e1139, hw⟩
    · intro i H1144 hi hw
      obtain ⟨G1147, acc1149, vs1150, L1152, eG1148, S1145, h1156, h1146, d1151, nb1153, nd1154, eo1155, hw⟩ := hw
      obtain ⟨z1157, hw⟩ := cW_mapA (rng_get hi) hw
      generalize (0 + (i : Int)) = x1158 at hw ⊢
      have hw := cW_noEr hw
      have hw : cW (F__down_right_c1 ((((above') : (List Int)).length : Int)) (v1117) (x1158)) _ (fun _ => False) := hw
      unfold F__down_right_c1 at hw
      refine ⟨rfl, ?_⟩
      refine tyes_go ?_
      refine ⟨_, rfl, _, rfl, _, _, rfl, rfl, _, rfl, _, _, rfl, rfl, _, rfl, _, rfl, _, _, rfl, rfl, (.inl ⟨by decide, by decide⟩), _, _, rfl, rfl, _, rfl, _, _, rfl, rfl, _, rfl, _, _, rfl, (SqL.of h1156), fun p1160 n1161 => ?_⟩
      generalize g1162 : upd H1144 p1160 _ = H1163
      obtain ⟨e1164, h1165⟩ := gen_new n1161 g1162
      have h1166 : H1163 p1160 = some (.lst ((cutL (v1117) (some ((((((above') : (List Int)).length : Int) - 1) - x1158))) (some ((((2 * (((above') : (List Int)).length : Int)) - 1) - x1158))) : (List Int)).map V.int)) := cut_map h1165
      have fr1167 := S1145.free n1161
      have S1168 := S1145.new n1161 e1164 h1166 fr1167
      have w1169 : OwAll G1147 H1163 L1152 (vs1150) ((acc1149 : (List (List Int))).map (oL oI)) := (OwAll.mono (Same.refl _) (keeps_same e1164) d1151)
      have h1170 := (e1164 _ _ h1146)
      refine ⟨_, h1170, (app_len (OwAll.rpA w1169 (encO_L encO_I) S1168.sG) z1157), ?_⟩
      generalize g1171 : upd H1163 D1132 _ = H1172
      obtain ⟨x1173, h1174⟩ := gen_mut g1171
      have S1175 := S1168.mut1 x1173 (.tail _ (.head _)) h1174
      have hw := cW_ok hw
      have h1176 := (x1173 _ _ (e1164 _ _ h1156) (ne_of_none h1123 n1133))
      exact ⟨_, (acc1149 ++ [cutL (v1117) (some ((((((above') : (List Int)).length : Int) - 1) - x1158))) (some ((((2 * (((above') : (List Int)).length : Int)) - 1) - x1158)))]), _, (L1152 ++ (p1160 :: ([] : List Addr))), eG1148, (S1175.sub (all_cons (.tail _ (.head _)) (all_app (all_app ((fun b hb => (.tail _ (.tail _ (List.mem_append_left _ hb)))) : ∀ b ∈ L1152, b ∈ (p1160 :: (D1132 :: (L1152 ++ (p1120 :: []))))) (all_cons (.head _) all_nil)) (all_cons (.tail _ (.tail _ (List.mem_append_right _ (.head _)))) all_nil)))), h1176, h1174, (OwAll.mono (Same.refl _) (keeps_mut x1173 ((all_app nd1154 (all_cons (ne_of_none h1146 n1161).symm all_nil)) : ∀ b ∈ (L1152 ++ (p1160 :: ([] : List Addr))), b ≠ D1132)) (OwAll.snocM w1169 (Ow.ints h1166) ((fun b hb => (nm_cons ((there_ne (fun b_ hb_ => (S1145.ow b_ (((fun b hb => (.tail _ (List.mem_append_left _ hb))) : ∀ b ∈ L1152, b ∈ (D1132 :: (L1152 ++ (p1120 :: [])))) b_ hb_)).2.1) n1161) b hb) nm_nil)) : ∀ b ∈ L1152, b ∉ (p1160 :: ([] : List Addr))))), ((all_app nb1153 (all_cons (none_of_same eo1155 n1161) all_nil)) : ∀ b ∈ (L1152 ++ (p1160 :: ([] : List Addr))), H1118 b = none), ((all_app nd1154 (all_cons (ne_of_none h1146 n1161).symm all_nil)) : ∀ b ∈ (L1152 ++ (p1160 :: ([] : List Addr))), b ≠ D1132), (same_mut (Same.trans eo1155 e1164) x1173 n1133), hw⟩
    intro H1177 hw
    obtain ⟨G1180, acc1182, vs1183, L1185, eG1181, S1178, h1189, h1179, d1184, nb1186, nd1187, eo1188, hw⟩ := hw
    have hw := hK1131 _ (cW_mapA0 (rng_len _ _).symm hw)
    have fr1190 := S1125.free n1133
    have hw := cW_ok hw
    exact hK0 _ hw _ _ _ _ _ fr1190 ((fun b hb => Sep.h0 S1178 (((fun b hb => (.tail _ (List.mem_append_left _ hb))) : ∀ b ∈ L1185, b ∈ (D1132 :: (L1185 ++ (p1120 :: [])))) b hb) nm_nil) : ∀ b ∈ L1185, H b = none) (nd1187 : ∀ b ∈ L1185, b ≠ D1132) S1178.b0 S1178.g0 S1178.sG S1178.gn (S1178.ow _ (.head _)).1 ((fun b hb => (S1178.ow b (((fun b hb => (.tail _ (List.mem_append_left _ hb))) : ∀ b ∈ L1185, b ∈ (D1132 :: (L1185 ++ (p1120 :: [])))) b hb)).1) : ∀ b ∈ L1185, G1180 b = none) h1179 d1184

abbrev N__down_left : List Str := ["above", "left", "corner", "top", "n", "means", "j"]
theorem sc__down_left : FnScope N__down_left ["above", "left", "corner", "top"] (defScope s__down_left) := ⟨rfl, rfl, rfl, by decide +kernel, rfl, by decide +kernel, by decide +kernel⟩
theorem ok__down_left (D : DefX K mg "_down_left" s__down_left ["above", "left", "corner", "top"] pats__down_left) (T : Txt K mg AD) (c__means : CalX P w K mg base 1 "_means" (sp__means K AD) pats__means) : CalX P w K mg base 2 "_down_left" (sp__down_left K AD) pats__down_left := by
  refine D.ok sc__down_left (fun vs H Q E h => ?_) (fun f cdv A_ outer s H vs Q E hr h => ?_)
  · obtain ⟨G, a_above, above', a_left, left', corner', top', rfl, _⟩ := h
    rfl
  · obtain ⟨G, a_above, above', a_left, left', corner', top', rfl, sG, q_above, q_left, hw⟩ := h
    refine ⟨_, (pss_cons (ps_set (i := 4) sc__down_left.nd rfl (Or.inr rfl) (pe_callB (call_lenLiK (K := K)) (by rfl) T.b_len (by decide +kernel) (pa_cons (pv 0) pa_nil)))
      (pss_cons (ps_set (i := 5) sc__down_left.nd rfl (Or.inr rfl) (vx_callX c__means pat__means_0 (.head _) hr (by decide) (takes_of rfl rfl rfl rfl) rfl (pa_cons (pe_op op_cat (pv 0) (pe_op op_rep (pe_lst (pa_cons (pe_ix (ix_listK (K := K)) (pv 0) (pe_op op_sub (pv 4) pe_int) (fun _ _ => rfl)) pa_nil)) (pe_op op_add (pv 4) pe_int))) pa_nil) pk_nil))
      (pss_one (ps_ret (pe_lc (own := [("j", 6)]) (g := gName 6) (by rfl) sc__down_left.nd (pi_range1 rfl T.b_range (pa_cons (pv 4) pa_nil)) (blkOk_by (own := [("j", 6)]) (N := N__down_left) (sc := defScope s__down_left) (by decide +kernel)) (fun _ _ _ _ _ => (pg_name (i := 6) sc__down_left.nd rfl (Or.inl rfl))) (fun _ _ _ _ _ => pts_nil) (fun _ _ _ _ _ => (pe_slice (sl_listK (K := K)) (pv 5) (po_some (pv 6)) (po_some (pe_op op_add (pv 6) (pv 4)))))))))), ?_⟩
    obtain ⟨KK, EE, hK0, hE, hw⟩ := cW_gen hw
    have S0 := Sep.startG sG
    unfold F__down_left at hw
    refine ⟨_, rfl, _, _, rfl, (SqL.of (S0.bM _ _ q_above)), ?_⟩
    have hw := cW_bnd hw
    obtain ⟨g1192, hw⟩ := cW_grd hw
    refine ⟨_, rfl, _, rfl, _, rfl, _, _, rfl, rfl, _, _, _, _, rfl, rfl, (SqL.of (S0.bM _ _ q_above)), (atI_map g1192), (by show 1 ≤ sizeLine; decide), fun p1193 n1194 => ?_⟩
    generalize g1195 : upd H p1193 _ = H1196
    obtain ⟨e1197, h1198⟩ := gen_new n1194 g1195
    have h1199 : H1196 p1193 = some (.lst (([(itD (above') (((((above') : (List Int)).length : Int) - 1)))] : (List Int)).map V.int)) := h1198
    have fr1200 := S0.free n1194
    have S1201 := S0.new n1194 e1197 h1199 fr1200
    obtain ⟨g1202, hw⟩ := cW_grd hw
    refine ⟨_, rfl, _, _, rfl, rfl, _, _, _, rfl, rfl, h1199, g1202.1, g1202.2.1, (rep_lenM g1202.2.2), fun p1203 n1204 => ?_⟩
    generalize g1205 : upd H1196 p1203 _ = H1206
    obtain ⟨e1207, h1208⟩ := gen_new n1204 g1205
    have h1209 : H1206 p1203 = some (.lst ((repL ([(itD (above') (((((above') : (List Int)).length : Int) - 1)))]) (((((above') : (List Int)).length : Int) + 1)) : (List Int)).map V.int)) := rep_map h1208
    have fr1210 := S1201.free n1204
    have S1211 := S1201.new n1204 e1207 h1209 fr1210
    obtain ⟨g1212, hw⟩ := cW_grd hw
    refine ⟨_, _, _, _, rfl, rfl, (S1211.bM _ _ q_above), h1209, (cat_lenM g1212), fun p1213 n1214 => ?_⟩
    generalize g1215 : upd H1206 p1213 _ = H1216
    obtain ⟨e1217, h1218⟩ := gen_new n1214 g1215
    have h1219 : H1216 p1213 = some (.lst (((above') ++ (repL ([(itD (above') (((((above') : (List Int)).length : Int) - 1)))]) (((((above') : (List Int)).length : Int) + 1))) : (List Int)).map V.int)) := cat_map h1218
    have fr1220 := S1211.free n1214
    have S1221 := S1211.new n1214 e1217 h1219 fr1220
    refine ⟨rfl, rfl, G, _, _, rfl, S1221.sG, (hide_nil h1219), cW_call hw (fun v1222 hw p1225 H1223 n1226 e1224 h1227 => ?_) (fun e he H2 e2 => hE e he H2 (Same.trans S1221.b0 e2))⟩
    have h1228 : H1223 p1225 = some (.lst ((v1222 : (List Int)).map V.int)) := h1227
    have fr1229 := S1221.free n1226
    have S1230 := S1221.new n1226 e1224 h1228 fr1229
    obtain ⟨g1231, hw⟩ := cW_grd hw
    obtain ⟨K1235, hK1236, hw⟩ := cW_push hw
    refine ⟨_, rfl, _, rfl, g1231.1, g1231.2, fun D1237 n1238 => lc_range (lo := 0) (n := Int.toNat ((((above') : (List Int)).length : Int))) (fun i H' => ∃ (G' : Hp) (acc1240 : (List (List Int))) (vs1241 : List V) (L1239 : List Addr), Same G G' ∧ Sep [] H G G' H' (D1237 :: (L1239 ++ (p1225 :: []))) ∧ H' p1225 = some (.lst ((v1222 : (List Int)).map V.int)) ∧ H' D1237 = some (.lst vs1241) ∧ OwAll G' H' L1239 vs1241 ((acc1240 : (List (List Int))).map (oL oI)) ∧ (∀ b ∈ L1239, H1223 b = none) ∧ (∀ b ∈ L1239, b ≠ D1237) ∧ Same H1223 H' ∧ cW (mapA (List.drop i (rng (0) (Int.toNat ((((above') : (List Int)).length : Int))))) acc1240 (fun x => noEr (F__down_left_c1 ((((above') : (List Int)).length : Int)) (v1222) x))) K1235 EE) ?_ ?_ ?_⟩
    · generalize g1242 : upd H1223 D1237 _ = H1243
      obtain ⟨e1244, h1245⟩ := gen_new n1238 g1242
      have fr1246 := S1230.free n1238
      have S1247 := S1230.new n1238 e1244 h1245 fr1246
      have h1248 := (e1244 _ _ h1228)
      exact ⟨_, [], [], [], Same.refl _, (S1247.sub (all_cons (.head _) (all_app (L := []) all_nil (all_cons (.tail _ (.head _)) all_nil)))), h1248, h1245, OwAll.nil, all_nil, all_nil, e1244, hw⟩
    · intro i H1249 hi hw
      obtain ⟨G1252, acc1254, vs1255, L1257, eG1253, S1250, h1261, h1251, d1256, nb1258, nd1259, eo1260, hw⟩ := hw
      obtain ⟨z1262, hw⟩ := cW_mapA (rng_get hi) hw
      generalize (0 + (i : Int)) = x1263 at hw ⊢
      have hw := cW_noEr hw
      have hw : cW (F__down_left_c1 ((((above') : (List Int)).length : Int)) (v1222) (x1263)) _ (fun _ => False) := hw
      unfold F__down_left_c1 at hw
      refine ⟨rfl, ?_⟩
      refine tyes_go ?_
      refine ⟨_, rfl, _, rfl, _, rfl, _, rfl, _, rfl, _, _, rfl, rfl, _, rfl, _, _, rfl, (SqL.of h1261), fun p1265 n1266 => ?_⟩
      generalize g1267 : upd H1249 p1265 _ = H1268
      obtain ⟨e1269, h1270⟩ := gen_new n1266 g1267
      have h1271 : H1268 p1265 = some (.lst ((cutL (v1222) (some (x1263)) (some ((x1263 + (((above') : (List Int)).length : Int)))) : (List Int)).map V.int)) := cut_map h1270
      have fr1272 := S1250.free n1266
      have S1273 := S1250.new n1266 e1269 h1271 fr1272
      have w1274 : OwAll G1252 H1268 L1257 (vs1255) ((acc1254 : (List (List Int))).map (oL oI)) := (OwAll.mono (Same.refl _) (keeps_same e1269) d1256)
      have h1275 := (e1269 _ _ h1251)
      refine ⟨_, h1275, (app_len (OwAll.rpA w1274 (encO_L encO_I) S1273.sG) z1262), ?_⟩
      generalize g1276 : upd H1268 D1237 _ = H1277
      obtain ⟨x1278, h1279⟩ := gen_mut g1276
      have S1280 := S1273.mut1 x1278 (.tail _ (.head _)) h1279
      have hw := cW_ok hw
      have h1281 := (x1278 _ _ (e1269 _ _ h1261) (ne_of_none h1228 n1238))
      exact ⟨_, (acc1254 ++ [cutL (v1222) (some (x1263)) (some ((x1263 + (((above') : (List Int)).length : Int))))]), _, (L1257 ++ (p1265 :: ([] : List Addr))), eG1253, (S1280.sub (all_cons (.tail _ (.head _)) (all_app (all_app ((fun b hb => (.tail _ (.tail _ (List.mem_append_left _ hb)))) : ∀ b ∈ L1257, b ∈ (p1265 :: (D1237 :: (L1257 ++ (p1225 :: []))))) (all_cons (.head _) all_nil)) (all_cons (.tail _ (.tail _ (List.mem_append_right _ (.head _)))) all_nil)))), h1281, h1279, (OwAll.mono (Same.refl _) (keeps_mut x1278 ((all_app nd1259 (all_cons (ne_of_none h1251 n1266).symm all_nil)) : ∀ b ∈ (L1257 ++ (p1265 :: ([] : List Addr))), b ≠ D1237)) (OwAll.snocM w1274 (Ow.ints h1271) ((fun b hb => (nm_cons ((there_ne (fun b_ hb_ => (S1250.ow b_ (((fun b hb => (.tail _ (List.mem_append_left _ hb))) : ∀ b ∈ L1257, b ∈ (D1237 :: (L1257 ++ (p1225 :: [])))) b_ hb_)).2.1) n1266) b hb) nm_nil)) : ∀ b ∈ L1257, b ∉ (p1265 :: ([] : List Addr))))), ((all_app nb1258 (all_cons (none_of_same eo1260 n1266) all_nil)) : ∀ b ∈ (L1257 ++ (p1265 :: ([] : List Addr))), H1223 b = none), ((all_app nd1259 (all_cons (ne_of_none h1251 n1266).symm all_nil)) : ∀ b ∈ (L1257 ++ (p1265 :: ([] : List Addr))), b ≠ D1237), (same_mut (Same.trans eo1260 e1269) x1278 n1238), hw⟩
    intro H1282 hw
    obtain ⟨G1285, acc1287, vs1288, L1290, eG1286, S1283, h1294, h1284, d1289, nb1291, nd1292, eo1293, hw⟩ := hw
    have hw := hK1236 _ (cW_mapA0 (rng_len _ _).symm hw)
    have fr1295 := S1230.free n1238
    have hw := cW_ok hw
    exact hK0 _ hw _ _ _ _ _ fr1295 ((fun b hb => Sep.h0 S1283 (((fun b hb => (.tail _ (List.mem_append_left _ hb))) : ∀ b ∈ L1290, b ∈ (D1237 :: (L1290 ++ (p1225 :: [])))) b hb) nm_nil) : ∀ b ∈ L1290, H b = none) (nd1292 : ∀ b ∈ L1290, b ≠ D1237) S1283.b0 S1283.g0 S1283.sG S1283.gn (S1283.ow _ (.head _)).1 ((fun b hb => (S1283.ow b (((fun b hb => (.tail _ (List.mem_append_left _ hb))) : ∀ b ∈ L1290, b ∈ (D1237 :: (L1290 ++ (p1225 :: [])))) b hb)).1) : ∀ b ∈ L1290, G1285 b = none) h1284 d1289

abbrev N_predict_area : List Str := ["above", "left", "corner", "mode", "top", "predict"]
theorem sc_predict_area : FnScope N_predict_area ["above", "left", "corner", "mode", "top"] (defScope s_predict_area) := ⟨rfl, rfl, rfl, by decide +kernel, rfl, by decide +kernel, by decide +kernel⟩
theorem ok_predict_area (D : DefX K mg "predict_area" s_predict_area ["above", "left", "corner", "mode", "top"] pats_predict_area) (T : Txt K mg AD) (c__down_left : CalX P w K mg base 2 "_down_left" (sp__down_left K AD) pats__down_left) (c__down_right : CalX P w K mg base 2 "_down_right" (sp__down_right K AD) pats__down_right) (c__slope : CalX P w K mg base 2 "_slope" (sp__slope K AD) pats__slope) (c__nearest : CalX P w K mg base 2 "_nearest" (sp__nearest K AD) pats__nearest) (c__smooth : CalX P w K mg base 2 "_smooth" (sp__smooth K AD) pats__smooth) (c__horizontal : CalX P w K mg base 1 "_horizontal" (sp__horizontal K AD) pats__horizontal) (c__vertical : CalX P w K mg base 1 "_vertical" (sp__vertical K AD) pats__vertical) (c__average : CalX P w K mg base 2 "_average" (sp__average K AD) pats__average) : CalX P w K mg base 3 "predict_area" (sp_predict_area K AD) pats_predict_area := by
  refine D.ok sc_predict_area (fun vs H Q E h => ?_) (fun f cdv A_ outer s H vs Q E hr h => ?_)
  · obtain ⟨G, a_above, above', a_left, left', corner', mode', top', rfl, _⟩ := h
    rfl
  · obtain ⟨G, a_above, above', a_left, left', corner', mode', top', rfl, sG, q_above, q_left, hw⟩ := h
    refine ⟨_, (pss_cons (ps_if (pt_not (pt_chain op_le op_lt pe_int (pv 3) (pe_callB (call_lenTK (K := K)) (by rfl) T.b_len (by decide +kernel) (pa_cons (C8.pe_gc (v := V.ref AD.t_MODES) rfl T.g_MODES) pa_nil)))) (pss_one (ps_raise rfl (takes_of rfl rfl rfl rfl) (pmk_own PySem.F.excBase_ValueError T.xx_OutOfRange T.xg_OutOfRange T.xk_OutOfRange (raises_own T.xb_OutOfRange T.xt_OutOfRange) rfl))) pss_nil)
      (pss_cons (ps_set (i := 5) sc_predict_area.nd rfl (Or.inl rfl) (pe_ix (ix_tupK (K := K)) (C8.pe_gc (v := V.ref AD.t_MODES) rfl T.g_MODES) (pv 3) (fun _ _ => rfl)))
      (pss_one (ps_ret (vx_callF (i := 5) (n := 4) (k := 2) [(AD.f__average, sp__average K AD), (AD.f__vertical, sp__vertical K AD), (AD.f__horizontal, sp__horizontal K AD), (AD.f__smooth, sp__smooth K AD), (AD.f__nearest, sp__nearest K AD), (AD.f__slope, sp__slope K AD), (AD.f__down_right, sp__down_right K AD), (AD.f__down_left, sp__down_left K AD)] (all_consQ (HeldX.of c__average T.gf__average (.head _) (by decide)) (all_consQ (HeldX.of c__vertical T.gf__vertical (.head _) (by decide)) (all_consQ (HeldX.of c__horizontal T.gf__horizontal (.head _) (by decide)) (all_consQ (HeldX.of c__smooth T.gf__smooth (.head _) (by decide)) (all_consQ (HeldX.of c__nearest T.gf__nearest (.head _) (by decide)) (all_consQ (HeldX.of c__slope T.gf__slope (.head _) (by decide)) (all_consQ (HeldX.of c__down_right T.gf__down_right (.head _) (by decide)) (all_consQ (HeldX.of c__down_left T.gf__down_left (.head _) (by decide)) all_nilQ)))))))) hr (by decide) (takes_of rfl rfl rfl rfl) rfl (by first | exact Or.inl rfl | exact Or.inr (Or.inl rfl)) (pa_cons (pv 0) (pa_cons (pv 1) (pa_cons (pv 2) (pa_cons (pv 4) pa_nil))))))))), ?_⟩
    obtain ⟨KK, EE, hK0, hE, hw⟩ := cW_gen hw
    have S0 := Sep.startG sG
    unfold F_predict_area at hw
    refine ⟨_, rfl, _, _, rfl, rfl, _, rfl, ?_⟩
    refine iteD (fun c1296 => ?_) (fun c1296 => ?_)
    · have hw := cW_pos c1296 hw
      refine ⟨_, _, _, rfl, (T.ts_MODES _), rfl, _, _, rfl, rfl, _, rfl, ?_⟩
      refine iteN (fun c1297 => ?_) (fun c1297 => ?_)
      · have hw := cW_neg c1297 hw
        exact hE 1 (cW_er hw) _ S0.b0
      · have hw := cW_pos c1297 hw
        obtain ⟨g1298, hw⟩ := cW_grd hw
        refine ⟨_, rfl, _, _, _, _, rfl, rfl, (T.ts_MODES _), (atI_map (xs := ([AD.f__average, AD.f__vertical, AD.f__horizontal, AD.f__smooth, AD.f__nearest, AD.f__slope, AD.f__down_right, AD.f__down_left] : List Addr)) (by show -(8 : Int) ≤ _ ∧ _ < (8 : Int); exact ⟨by omega, g1298.2⟩)), ?_⟩
        by_cases c1299 : (mode' : Int) = 0
        · have hw := cW_pos c1299 hw
          refine ⟨AD.f__average, (sp__average K AD), (by rw [c1299]; rfl), (.head _), _, rfl, _, rfl, _, rfl, _, rfl, rfl, rfl, G, _, _, _, _, _, _, rfl, S0.sG, (hide_nil (S0.bM _ _ q_above)), (hide_nil (S0.bM _ _ q_left)), cW_call hw (fun v1300 hw H1301 a1303 vs1304 L1305 G1306 n1307 nb1308 nd1309 e1302 eG1310 sG1311 hn1312 ga1313 gL1314 h1315 w1316 => ?_) (fun e he H2 e2 => hE e he H2 (Same.trans S0.b0 e2))⟩
          have fr1317 := S0.free n1307
          have S1318 : Sep _ _ _ _ H1301 (a1303 :: (L1305 ++ [])) := Sep.steptree S0 e1302 eG1310 sG1311 hn1312 (a1303 :: L1305) (all_cons ⟨n1307, ga1313, some_ne h1315⟩ (fun b hb => ⟨nb1308 b hb, gL1314 b hb, OwAll.there w1316 b hb⟩))
          have hw := cW_ok hw
          exact hK0 _ hw _ _ _ _ _ fr1317 ((fun b hb => Sep.h0 S1318 (((fun b hb => (.tail _ (List.mem_append_left _ hb))) : ∀ b ∈ L1305, b ∈ (a1303 :: (L1305 ++ []))) b hb) nm_nil) : ∀ b ∈ L1305, H b = none) (nd1309 : ∀ b ∈ L1305, b ≠ a1303) S1318.b0 S1318.g0 S1318.sG S1318.gn (S1318.ow _ (.head _)).1 ((fun b hb => (S1318.ow b (((fun b hb => (.tail _ (List.mem_append_left _ hb))) : ∀ b ∈ L1305, b ∈ (a1303 :: (L1305 ++ []))) b hb)).1) : ∀ b ∈ L1305, G1306 b = none) h1315 w1316
        · have hw := cW_neg c1299 hw
          by_cases c1319 : (mode' : Int) = 1
          · have hw := cW_pos c1319 hw
            refine ⟨AD.f__vertical, (sp__vertical K AD), (by rw [c1319]; rfl), (.tail _ (.head _)), _, rfl, _, rfl, _, rfl, _, rfl, rfl, rfl, G, _, _, _, _, _, _, rfl, S0.sG, (hide_nil (S0.bM _ _ q_above)), (hide_nil (S0.bM _ _ q_left)), cW_call hw (fun v1320 hw H1321 a1323 vs1324 L1325 G1326 n1327 nb1328 nd1329 e1322 eG1330 sG1331 hn1332 ga1333 gL1334 h1335 w1336 => ?_) (fun e he H2 e2 => hE e he H2 (Same.trans S0.b0 e2))⟩
            have fr1337 := S0.free n1327
            have S1338 : Sep _ _ _ _ H1321 (a1323 :: (L1325 ++ [])) := Sep.steptree S0 e1322 eG1330 sG1331 hn1332 (a1323 :: L1325) (all_cons ⟨n1327, ga1333, some_ne h1335⟩ (fun b hb => ⟨nb1328 b hb, gL1334 b hb, OwAll.there w1336 b hb⟩))
            have hw := cW_ok hw
            exact hK0 _ hw _ _ _ _ _ fr1337 ((fun b hb => Sep.h0 S1338 (((fun b hb => (.tail _ (List.mem_append_left _ hb))) : ∀ b ∈ L1325, b ∈ (a1323 :: (L1325 ++ []))) b hb) nm_nil) : ∀ b ∈ L1325, H b = none) (nd1329 : ∀ b ∈ L1325, b ≠ a1323) S1338.b0 S1338.g0 S1338.sG S1338.gn (S1338.ow _ (.head _)).1 ((fun b hb => (S1338.ow b (((fun b hb => (.tail _ (List.mem_append_left _ hb))) : ∀ b ∈ L1325, b ∈ (a1323 :: (L1325 ++ []))) b hb)).1) : ∀ b ∈ L1325, G1326 b = none) h1335 w1336
          · have hw := cW_neg c1319 hw
            by_cases c1339 : (mode' : Int) = 2
            · have hw := cW_pos c1339 hw
              refine ⟨AD.f__horizontal, (sp__horizontal K AD), (by rw [c1339]; rfl), (.tail _ (.tail _ (.head _))), _, rfl, _, rfl, _, rfl, _, rfl, rfl, rfl, G, _, _, _, _, _, _, rfl, S0.sG, (hide_nil (S0.bM _ _ q_above)), (hide_nil (S0.bM _ _ q_left)), cW_call hw (fun v1340 hw H1341 a1343 vs1344 L1345 G1346 n1347 nb1348 nd1349 e1342 eG1350 sG1351 hn1352 ga1353 gL1354 h1355 w1356 => ?_) (fun e he H2 e2 => hE e he H2 (Same.trans S0.b0 e2))⟩
              have fr1357 := S0.free n1347
              have S1358 : Sep _ _ _ _ H1341 (a1343 :: (L1345 ++ [])) := Sep.steptree S0 e1342 eG1350 sG1351 hn1352 (a1343 :: L1345) (all_cons ⟨n1347, ga1353, some_ne h1355⟩ (fun b hb => ⟨nb1348 b hb, gL1354 b hb, OwAll.there w1356 b hb⟩))
              have hw := cW_ok hw
              exact hK0 _ hw _ _ _ _ _ fr1357 ((fun b hb => Sep.h0 S1358 (((fun b hb => (.tail _ (List.mem_append_left _ hb))) : ∀ b ∈ L1345, b ∈ (a1343 :: (L1345 ++ []))) b hb) nm_nil) : ∀ b ∈ L1345, H b = none) (nd1349 : ∀ b ∈ L1345, b ≠ a1343) S1358.b0 S1358.g0 S1358.sG S1358.gn (S1358.ow _ (.head _)).1 ((fun b hb => (S1358.ow b (((fun b hb => (.tail _ (List.mem_append_left _ hb))) : ∀ b ∈ L1345, b ∈ (a1343 :: (L1345 ++ []))) b hb)).1) : ∀ b ∈ L1345, G1346 b = none) h1355 w1356
            · have hw := cW_neg c1339 hw
              by_cases c1359 : (mode' : Int) = 3
              · have hw := cW_pos c1359 hw
                refine ⟨AD.f__smooth, (sp__smooth K AD), (by rw [c1359]; rfl), (.tail _ (.tail _ (.tail _ (.head _)))), _, rfl, _, rfl, _, rfl, _, rfl, rfl, rfl, G, _, _, _, _, _, _, rfl, S0.sG, (hide_nil (S0.bM _ _ q_above)), (hide_nil (S0.bM _ _ q_left)), cW_call hw (fun v1360 hw H1361 a1363 vs1364 L1365 G1366 n1367 nb1368 nd1369 e1362 eG1370 sG1371 hn1372 ga1373 gL1374 h1375 w1376 => ?_) (fun e he H2 e2 => hE e he H2 (Same.trans S0.b0 e2))⟩
                have fr1377 := S0.free n1367
                have S1378 : Sep _ _ _ _ H1361 (a1363 :: (L1365 ++ [])) := Sep.steptree S0 e1362 eG1370 sG1371 hn1372 (a1363 :: L1365) (all_cons ⟨n1367, ga1373, some_ne h1375⟩ (fun b hb => ⟨nb1368 b hb, gL1374 b hb, OwAll.there w1376 b hb⟩))
                have hw := cW_ok hw
                exact hK0 _ hw _ _ _ _ _ fr1377 ((fun b hb => Sep.h0 S1378 (((fun b hb => (.tail _ (List.mem_append_left _ hb))) : ∀ b ∈ L1365, b ∈ (a1363 :: (L1365 ++ []))) b hb) nm_nil) : ∀ b ∈ L1365, H b = none) (nd1369 : ∀ b ∈ L1365, b ≠ a1363) S1378.b0 S1378.g0 S1378.sG S1378.gn (S1378.ow _ (.head _)).1 ((fun b hb => (S1378.ow b (((fun b hb => (.tail _ (List.mem_append_left _ hb))) : ∀ b ∈ L1365, b ∈ (a1363 :: (L1365 ++ []))) b hb)).1) : ∀ b ∈ L1365, G1366 b = none) h1375 w1376
              · have hw := cW_neg c1359 hw
                by_cases c1379 : (mode' : Int) = 4
                · have hw := cW_pos c1379 hw
                  refine ⟨AD.f__nearest, (sp__nearest K AD), (by rw [c1379]; rfl), (.tail _ (.tail _ (.tail _ (.tail _ (.head _))))), _, rfl, _, rfl, _, rfl, _, rfl, rfl, rfl, G, _, _, _, _, _, _, rfl, S0.sG, (hide_nil (S0.bM _ _ q_above)), (hide_nil (S0.bM _ _ q_left)), cW_call hw (fun v1380 hw H1381 a1383 vs1384 L1385 G1386 n1387 nb1388 nd1389 e1382 eG1390 sG1391 hn1392 ga1393 gL1394 h1395 w1396 => ?_) (fun e he H2 e2 => hE e he H2 (Same.trans S0.b0 e2))⟩
                  have fr1397 := S0.free n1387
                  have S1398 : Sep _ _ _ _ H1381 (a1383 :: (L1385 ++ [])) := Sep.steptree S0 e1382 eG1390 sG1391 hn1392 (a1383 :: L1385) (all_cons ⟨n1387, ga1393, some_ne h1395⟩ (fun b hb => ⟨nb1388 b hb, gL1394 b hb, OwAll.there w1396 b hb⟩))
                  have hw := cW_ok hw
                  exact hK0 _ hw _ _ _ _ _ fr1397 ((fun b hb => Sep.h0 S1398 (((fun b hb => (.tail _ (List.mem_append_left _ hb))) : ∀ b ∈ L1385, b ∈ (a1383 :: (L1385 ++ []))) b hb) nm_nil) : ∀ b ∈ L1385, H b = none) (nd1389 : ∀ b ∈ L1385, b ≠ a1383) S1398.b0 S1398.g0 S1398.sG S1398.gn (S1398.ow _ (.head _)).1 ((fun b hb => (S1398.ow b (((fun b hb => (.tail _ (List.mem_append_left _ hb))) : ∀ b ∈ L1385, b ∈ (a1383 :: (L1385 ++ []))) b hb)).1) : ∀ b ∈ L1385, G1386 b = none) h1395 w1396
                · have hw := cW_neg c1379 hw
                  by_cases c1399 : (mode' : Int) = 5
                  · have hw := cW_pos c1399 hw
                    refine ⟨AD.f__slope, (sp__slope K AD), (by rw [c1399]; rfl), (.tail _ (.tail _ (.tail _ (.tail _ (.tail _ (.head _)))))), _, rfl, _, rfl, _, rfl, _, rfl, rfl, rfl, G, _, _, _, _, _, _, rfl, S0.sG, (hide_nil (S0.bM _ _ q_above)), (hide_nil (S0.bM _ _ q_left)), cW_call hw (fun v1400 hw H1401 a1403 vs1404 L1405 G1406 n1407 nb1408 nd1409 e1402 eG1410 sG1411 hn1412 ga1413 gL1414 h1415 w1416 => ?_) (fun e he H2 e2 => hE e he H2 (Same.trans S0.b0 e2))⟩
                    have fr1417 := S0.free n1407
                    have S1418 : Sep _ _ _ _ H1401 (a1403 :: (L1405 ++ [])) := Sep.steptree S0 e1402 eG1410 sG1411 hn1412 (a1403 :: L1405) (all_cons ⟨n1407, ga1413, some_ne h1415⟩ (fun b hb => ⟨nb1408 b hb, gL1414 b hb, OwAll.there w1416 b hb⟩))
                    have hw := cW_ok hw
                    exact hK0 _ hw _ _ _ _ _ fr1417 ((fun b hb => Sep.h0 S1418 (((fun b hb => (.tail _ (List.mem_append_left _ hb))) : ∀ b ∈ L1405, b ∈ (a1403 :: (L1405 ++ []))) b hb) nm_nil) : ∀ b ∈ L1405, H b = none) (nd1409 : ∀ b ∈ L1405, b ≠ a1403) S1418.b0 S1418.g0 S1418.sG S1418.gn (S1418.ow _ (.head _)).1 ((fun b hb => (S1418.ow b (((fun b hb => (.tail _ (List.mem_append_left _ hb))) : ∀ b ∈ L1405, b ∈ (a1403 :: (L1405 ++ []))) b hb)).1) : ∀ b ∈ L1405, G1406 b = none) h1415 w1416
                  · have hw := cW_neg c1399 hw
                    by_cases c1419 : (mode' : Int) = 6
                    · have hw := cW_pos c1419 hw
                      refine ⟨AD.f__down_right, (sp__down_right K AD), (by rw [c1419]; rfl), (.tail _ (.tail _ (.tail _ (.tail _ (.tail _ (.tail _ (.head _))))))), _, rfl, _, rfl, _, rfl, _, rfl, rfl, rfl, G, _, _, _, _, _, _, rfl, S0.sG, (hide_nil (S0.bM _ _ q_above)), (hide_nil (S0.bM _ _ q_left)), cW_call hw (fun v1420 hw H1421 a1423 vs1424 L1425 G1426 n1427 nb1428 nd1429 e1422 eG1430 sG1431 hn1432 ga1433 gL1434 h1435 w1436 => ?_) (fun e he H2 e2 => hE e he H2 (Same.trans S0.b0 e2))⟩
                      have fr1437 := S0.free n1427
                      have S1438 : Sep _ _ _ _ H1421 (a1423 :: (L1425 ++ [])) := Sep.steptree S0 e1422 eG1430 sG1431 hn1432 (a1423 :: L1425) (all_cons ⟨n1427, ga1433, some_ne h1435⟩ (fun b hb => ⟨nb1428 b hb, gL1434 b hb, OwAll.there w1436 b hb⟩))
                      have hw := cW_ok hw
                      exact hK0 _ hw _ _ _ _ _ fr1437 ((fun b hb => Sep.h0 S1438 (((fun b hb => (.tail _ (List.mem_append_left _ hb))) : ∀ b ∈ L1425, b ∈ (a1423 :: (L1425 ++ []))) b hb) nm_nil) : ∀ b ∈ L1425, H b = none) (nd1429 : ∀ b ∈ L1425, b ≠ a1423) S1438.b0 S1438.g0 S1438.sG S1438.gn (S1438.ow _ (.head _)).1 ((fun b hb => (S1438.ow b (((fun b hb => (.tail _ (List.mem_append_left _ hb))) : ∀ b ∈ L1425, b ∈ (a1423 :: (L1425 ++ []))) b hb)).1) : ∀ b ∈ L1425, G1426 b = none) h1435 w1436
                    · have hw := cW_neg c1419 hw
                      have c1439 : (mode' : Int) = 7 := by omega
                      refine ⟨AD.f__down_left, (sp__down_left K AD), (by rw [c1439]; rfl), (.tail _ (.tail _ (.tail _ (.tail _ (.tail _ (.tail _ (.tail _ (.head _)))))))), _, rfl, _, rfl, _, rfl, _, rfl, rfl, rfl, G, _, _, _, _, _, _, rfl, S0.sG, (hide_nil (S0.bM _ _ q_above)), (hide_nil (S0.bM _ _ q_left)), cW_call hw (fun v1440 hw H1441 a1443 vs1444 L1445 G1446 n1447 nb1448 nd1449 e1442 eG1450 sG1451 hn1452 ga1453 gL1454 h1455 w1456 => ?_) (fun e he H2 e2 => hE e he H2 (Same.trans S0.b0 e2))⟩
                      have fr1457 := S0.free n1447
                      have S1458 : Sep _ _ _ _ H1441 (a1443 :: (L1445 ++ [])) := Sep.steptree S0 e1442 eG1450 sG1451 hn1452 (a1443 :: L1445) (all_cons ⟨n1447, ga1453, some_ne h1455⟩ (fun b hb => ⟨nb1448 b hb, gL1454 b hb, OwAll.there w1456 b hb⟩))
                      have hw := cW_ok hw
                      exact hK0 _ hw _ _ _ _ _ fr1457 ((fun b hb => Sep.h0 S1458 (((fun b hb => (.tail _ (List.mem_append_left _ hb))) : ∀ b ∈ L1445, b ∈ (a1443 :: (L1445 ++ []))) b hb) nm_nil) : ∀ b ∈ L1445, H b = none) (nd1449 : ∀ b ∈ L1445, b ≠ a1443) S1458.b0 S1458.g0 S1458.sG S1458.gn (S1458.ow _ (.head _)).1 ((fun b hb => (S1458.ow b (((fun b hb => (.tail _ (List.mem_append_left _ hb))) : ∀ b ∈ L1445, b ∈ (a1443 :: (L1445 ++ []))) b hb)).1) : ∀ b ∈ L1445, G1446 b = none) h1455 w1456
    · have hw := cW_neg c1296 hw
      refine ⟨_, rfl, ?_⟩
      refine iteT ?_
      exact hE 1 (cW_er hw) _ S0.b0

abbrev N__law_refused : List Str := ["around", "mode", "top", "e"]
theorem sc__law_refused : FnScope N__law_refused ["around", "mode", "top"] (defScope s__law_refused) := ⟨rfl, rfl, rfl, by decide +kernel, rfl, by decide +kernel, by decide +kernel⟩
theorem ok__law_refused (D : DefX K mg "_law_refused" s__law_refused ["around", "mode", "top"] pats__law_refused) (T : Txt K mg AD) (c_predict_area : CalX P w K mg base 3 "predict_area" (sp_predict_area K AD) pats_predict_area) : CalX P w K mg base 4 "_law_refused" (sp__law_refused K AD) pats__law_refused := by
  refine D.ok sc__law_refused (fun vs H Q E h => ?_) (fun f cdv A_ outer s H vs Q E hr h => ?_)
  · obtain ⟨G, v_around, around', mode', top', rfl, _⟩ := h
    rfl
  · obtain ⟨G, v_around, around', mode', top', rfl, sG, r_around, hw⟩ := h
    refine ⟨_, (pss_cons (ps_try_as (i := 3) rfl rfl sc__law_refused.nd rfl rfl ⟨rfl, by decide, .inl T.xg_OutOfRange⟩ (takes_of rfl rfl rfl rfl) (fun W pn xe tk pse => (pss_one (ps_expr (vx_callX c_predict_area pat_predict_area_0 (.head _) hr (by decide) tk rfl (pa_cons (pe_ix (ix_tupK (K := K)) (pv 0) pe_int (fun _ _ => rfl)) (pa_cons (pe_ix (ix_tupK (K := K)) (pv 0) pe_int (fun _ _ => rfl)) (pa_cons (pe_ix (ix_tupK (K := K)) (pv 0) pe_int (fun _ _ => rfl)) (pa_cons (pv 1) pa_nil)))) (pk_cons (pv 2) pk_nil))))) (fun a oe cls d pn hz hf => (pss_one (ps_ret (pe_callB (call_isX (K := K) hz hf) (by rfl) T.b_isinstance (by decide +kernel) (pa_cons (pv 3) (pa_cons (C8.pe_gc (v := V.ref AD.x_CodecError) rfl ⟨_, T.xg_CodecError, rfl⟩) pa_nil)))))))
      (pss_one (ps_ret pe_bl))), ?_⟩
    obtain ⟨KK, EE, hK0, hE, hw⟩ := cW_gen hw
    have S0 := Sep.startG sG
    unfold F__law_refused at hw
    obtain ⟨a1459, v1461, v1462, v1463, rfl, h1460, r1464, r1465, r1466⟩ := rp_tup3 r_around
    obtain ⟨a1467, rfl, h1468⟩ := rp_ints r1464
    obtain ⟨a1469, rfl, h1470⟩ := rp_ints r1465
    obtain rfl := rp_int r1466
    refine ⟨_, rfl, _, _, _, _, rfl, rfl, (SqT.of (S0.bM _ _ h1460)), rfl, _, rfl, _, _, _, _, rfl, rfl, (SqT.of (S0.bM _ _ h1460)), rfl, _, rfl, _, _, _, _, rfl, rfl, (SqT.of (S0.bM _ _ h1460)), rfl, _, rfl, _, rfl, rfl, rfl, G, _, _, _, _, _, _, _, rfl, S0.sG, (hide_nil (S0.bM _ _ h1468)), (hide_nil (S0.bM _ _ h1470)), cW_try hw (fun v1471 hw H1472 a1474 vs1475 L1476 G1477 n1478 nb1479 nd1480 e1473 eG1481 sG1482 hn1483 ga1484 gL1485 h1486 w1487 => ?_) ?_⟩
    · have fr1488 := S0.free n1478
      have S1489 : Sep _ _ _ _ H1472 (a1474 :: (L1476 ++ [])) := Sep.steptree S0 e1473 eG1481 sG1482 hn1483 (a1474 :: L1476) (all_cons ⟨n1478, ga1484, some_ne h1486⟩ (fun b hb => ⟨nb1479 b hb, gL1485 b hb, OwAll.there w1487 b hb⟩))
      have hw := cW_ok hw
      exact hK0 _ hw _ S1489.b0
    · intro e hm hw H1490 e1491
      have S1492 := S0.same e1491
      obtain rfl := mem_one hm
      refine ⟨true, T.xm_OutOfRange_OutOfRange, fun _ a1493 na1494 => ?_, fun q => nomatch q⟩
      refine ⟨_, rfl, _, _, _, rfl, rfl, T.xc_OutOfRange, rfl, T.xo_OutOfRange_CodecError, ?_⟩
      have hw := cW_ok hw
      exact hK0 _ hw _ S1492.b0

abbrev N__law_cell : List Str := ["script", "k"]
theorem sc__law_cell : FnScope N__law_cell ["script", "k"] (defScope s__law_cell) := ⟨rfl, rfl, rfl, by decide +kernel, rfl, by decide +kernel, by decide +kernel⟩
theorem ok__law_cell (D : DefX K mg "_law_cell" s__law_cell ["script", "k"] pats__law_cell) (T : Txt K mg AD)  : CalX P w K mg base 1 "_law_cell" (sp__law_cell K AD) pats__law_cell := by
  refine D.ok sc__law_cell (fun vs H Q E h => ?_) (fun f cdv A_ outer s H vs Q E hr h => ?_)
  · obtain ⟨G, a_script, script', k', rfl, _⟩ := h
    rfl
  · obtain ⟨G, a_script, script', k', rfl, sG, q_script, hw⟩ := h
    refine ⟨_, (pss_cons (ps_if (pt_cmp (pc_lt (pv 1) (pe_callB (call_lenLiK (K := K)) (by rfl) T.b_len (by decide +kernel) (pa_cons (pv 0) pa_nil)))) (pss_one (ps_ret (pe_callTy call_int1 (by rfl) T.b_int (by decide +kernel) (pa_cons (pe_ix (ix_listK (K := K)) (pv 0) (pv 1) (fun _ _ => rfl)) pa_nil)))) pss_nil)
      (pss_one (ps_ret pe_int))), ?_⟩
    obtain ⟨KK, EE, hK0, hE, hw⟩ := cW_gen hw
    have S0 := Sep.startG sG
    unfold F__law_cell at hw
    refine ⟨_, rfl, _, rfl, _, _, rfl, (S0.b0.seq q_script), _, _, rfl, rfl, _, rfl, ?_⟩
    refine iteD (fun c1495 => ?_) (fun c1495 => ?_)
    · have hw := cW_pos c1495 hw
      obtain ⟨g1496, hw⟩ := cW_grd hw
      refine ⟨_, rfl, _, rfl, _, _, _, _, rfl, rfl, (S0.b0.seq q_script), (atI_map g1496), .inl ⟨_, rfl, ?_⟩⟩
      have hw := cW_ok hw
      exact hK0 _ hw
    · have hw := cW_neg c1495 hw
      have hw := cW_ok hw
      exact hK0 _ hw

abbrev N__law_nearest : List Str := ["a", "b", "corner", "target", "distances"]
theorem sc__law_nearest : FnScope N__law_nearest ["a", "b", "corner"] (defScope s__law_nearest) := ⟨rfl, rfl, rfl, by decide +kernel, rfl, by decide +kernel, by decide +kernel⟩
theorem ok__law_nearest (D : DefX K mg "_law_nearest" s__law_nearest ["a", "b", "corner"] pats__law_nearest) (T : Txt K mg AD)  : CalX P w K mg base 1 "_law_nearest" (sp__law_nearest K AD) pats__law_nearest := by
  refine D.ok sc__law_nearest (fun vs H Q E h => ?_) (fun f cdv A_ outer s H vs Q E hr h => ?_)
  · obtain ⟨G, a', b', corner', rfl, _⟩ := h
    rfl
  · obtain ⟨G, a', b', corner', rfl, sG, hw⟩ := h
    refine ⟨_, (pss_cons (ps_set (i := 3) sc__law_nearest.nd rfl (Or.inl rfl) (pe_op op_sub (pe_op op_add (pv 0) (pv 1)) (pv 2)))
      (pss_cons (ps_set (i := 4) sc__law_nearest.nd rfl (Or.inl rfl) (pe_lst (pa_cons (pe_callB call_abs (by rfl) T.b_abs (by decide +kernel) (pa_cons (pe_op op_sub (pv 3) (pv 0)) pa_nil)) (pa_cons (pe_callB call_abs (by rfl) T.b_abs (by decide +kernel) (pa_cons (pe_op op_sub (pv 3) (pv 1)) pa_nil)) (pa_cons (pe_callB call_abs (by rfl) T.b_abs (by decide +kernel) (pa_cons (pe_op op_sub (pv 3) (pv 2)) pa_nil)) pa_nil)))))
      (pss_one (ps_ret (pe_ix (ix_listK (K := K)) (pe_lst (pa_cons (pv 0) (pa_cons (pv 1) (pa_cons (pv 2) pa_nil)))) (pe_bm PySem.F.plainAttrs_list PySem.F.slot_list_index PySem.F.type_list_index (mt_indexI (K := K)) (pv 4) (pa_cons (pe_callB (cr_minL (K := K) rfl) (by rfl) T.b_min (by decide +kernel) (pa_cons (pv 4) pa_nil)) pa_nil)) (fun _ _ => rfl)))))), ?_⟩
    obtain ⟨KK, EE, hK0, hE, hw⟩ := cW_gen hw
    have S0 := Sep.startG sG
    unfold F__law_nearest at hw
    refine ⟨_, rfl, _, rfl, _, _, rfl, rfl, _, rfl, _, _, rfl, rfl, ?_⟩
    have hw := cW_bnd hw
    refine ⟨_, rfl, _, rfl, _, _, rfl, rfl, _, rfl, _, rfl, _, rfl, _, _, rfl, rfl, _, rfl, _, rfl, _, rfl, _, _, rfl, rfl, _, rfl, (by show 3 ≤ sizeLine; decide), fun p1498 n1499 => ?_⟩
    generalize g1500 : upd H p1498 _ = H1501
    obtain ⟨e1502, h1503⟩ := gen_new n1499 g1500
    have h1504 : H1501 p1498 = some (.lst (([(if (((a' + b') - corner') - a') < 0 then -(((a' + b') - corner') - a') else (((a' + b') - corner') - a')), (if (((a' + b') - corner') - b') < 0 then -(((a' + b') - corner') - b') else (((a' + b') - corner') - b')), (if (((a' + b') - corner') - corner') < 0 then -(((a' + b') - corner') - corner') else (((a' + b') - corner') - corner'))] : (List Int)).map V.int)) := h1503
    have fr1505 := S0.free n1499
    have S1506 := S0.new n1499 e1502 h1504 fr1505
    refine ⟨_, rfl, _, rfl, _, rfl, (by show 3 ≤ sizeLine; decide), fun p1507 n1508 => ?_⟩
    generalize g1509 : upd H1501 p1507 _ = H1510
    obtain ⟨e1511, h1512⟩ := gen_new n1508 g1509
    have h1513 : H1510 p1507 = some (.lst (([a', b', corner'] : (List Int)).map V.int)) := h1512
    have fr1514 := S1506.free n1508
    have S1515 := S1506.new n1508 e1511 h1513 fr1514
    have h1516 := (e1511 _ _ h1504)
    obtain ⟨g1517, hw⟩ := cW_grd hw
    obtain ⟨g1518, hw⟩ := cW_grd hw
    obtain ⟨g1519, hw⟩ := cW_grd hw
    refine ⟨_, rfl, (.inl ⟨rfl, _, SqL.of h1516⟩), _, rfl, _, _, rfl, (SqL.of h1516), g1517, _, _, _, rfl, rfl, (SqL.of h1516), g1518, _, _, _, _, rfl, rfl, (SqL.of h1513), (atI_map g1519), ?_⟩
    have hw := cW_ok hw
    exact hK0 _ hw _ S1515.b0

abbrev N__law_sample : List Str := ["above", "left", "corner", "mode", "i", "j", "top", "n", "shift", "total", "edge", "k", "places"]
theorem sc__law_sample : FnScope N__law_sample ["above", "left", "corner", "mode", "i", "j", "top"] (defScope s__law_sample) := ⟨rfl, rfl, rfl, by decide +kernel, rfl, by decide +kernel, by decide +kernel⟩
theorem ok__law_sample (D : DefX K mg "_law_sample" s__law_sample ["above", "left", "corner", "mode", "i", "j", "top"] pats__law_sample) (T : Txt K mg AD) (c__law_nearest : CalX P w K mg base 1 "_law_nearest" (sp__law_nearest K AD) pats__law_nearest) : CalX P w K mg base 2 "_law_sample" (sp__law_sample K AD) pats__law_sample := by
  refine D.ok sc__law_sample (fun vs H Q E h => ?_) (fun f cdv A_ outer s H vs Q E hr h => ?_)
  · obtain ⟨G, a_above, above', a_left, left', corner', mode', i', j', top', rfl, _⟩ := h
    rfl
  · obtain ⟨G, a_above, above', a_left, left', corner', mode', i', j', top', rfl, sG, q_above, q_left, hw⟩ := h
    refine ⟨_, (pss_cons (ps_set (i := 7) sc__law_sample.nd rfl (Or.inr rfl) (pe_callB (call_lenLiK (K := K)) (by rfl) T.b_len (by decide +kernel) (pa_cons (pv 0) pa_nil)))
      (pss_cons (ps_set (i := 8) sc__law_sample.nd rfl (Or.inl rfl) (pe_ix (ix_listK (K := K)) (pe_lst (pa_cons pe_int (pa_cons pe_int pa_nil))) (pe_callTy call_int1 (by rfl) T.b_int (by decide +kernel) (pa_cons (pe_cmp (pc_eqI (pv 7) pe_int)) pa_nil)) (fun _ _ => rfl)))
      (pss_cons (ps_if (pt_cmp (pc_eqI (pv 3) pe_int)) (pss_one (ps_ret (pe_op op_shr (pe_op op_add (pe_op op_add (pe_callB (cr_sumK (K := K) rfl) (by rfl) T.b_sum (by decide +kernel) (pa_cons (pv 0) pa_nil)) (pe_callB (cr_sumK (K := K) rfl) (by rfl) T.b_sum (by decide +kernel) (pa_cons (pv 1) pa_nil))) (pv 7)) (pv 8)))) pss_nil)
      (pss_cons (ps_if (pt_cmp (pc_eqI (pv 3) pe_int)) (pss_one (ps_ret (pe_ix (ix_listK (K := K)) (pv 0) (pv 4) (fun _ _ => rfl)))) pss_nil)
      (pss_cons (ps_if (pt_cmp (pc_eqI (pv 3) pe_int)) (pss_one (ps_ret (pe_ix (ix_listK (K := K)) (pv 1) (pv 5) (fun _ _ => rfl)))) pss_nil)
      (pss_cons (ps_if (pt_cmp (pc_eqI (pv 3) pe_int)) (pss_cons (ps_set (i := 9) sc__law_sample.nd rfl (Or.inl rfl) (pe_op op_add (pe_op op_add (pe_op op_add (pe_op op_mul (pe_op op_sub (pe_op op_sub (pv 7) pe_int) (pv 5)) (pe_ix (ix_listK (K := K)) (pv 0) (pv 4) (fun _ _ => rfl))) (pe_op op_mul (pe_op op_add (pv 5) pe_int) (pe_ix (ix_listK (K := K)) (pv 1) (pe_op op_sub (pv 7) pe_int) (fun _ _ => rfl)))) (pe_op op_mul (pe_op op_sub (pe_op op_sub (pv 7) pe_int) (pv 4)) (pe_ix (ix_listK (K := K)) (pv 1) (pv 5) (fun _ _ => rfl)))) (pe_op op_mul (pe_op op_add (pv 4) pe_int) (pe_ix (ix_listK (K := K)) (pv 0) (pe_op op_sub (pv 7) pe_int) (fun _ _ => rfl)))))
      (pss_one (ps_ret (pe_op op_shr (pe_op op_add (pv 9) (pv 7)) (pv 8))))) pss_nil)
      (pss_cons (ps_if (pt_cmp (pc_eqI (pv 3) pe_int)) (pss_one (ps_ret (vx_callX c__law_nearest pat__law_nearest_0 (.head _) hr (by decide) (takes_of rfl rfl rfl rfl) rfl (pa_cons (pe_ix (ix_listK (K := K)) (pv 1) (pv 5) (fun _ _ => rfl)) (pa_cons (pe_ix (ix_listK (K := K)) (pv 0) (pv 4) (fun _ _ => rfl)) (pa_cons (pv 2) pa_nil))) pk_nil))) pss_nil)
      (pss_cons (ps_if (pt_cmp (pc_eqI (pv 3) pe_int)) (pss_one (ps_ret (pe_callB (call_min2 rfl) (by rfl) T.b_min (by decide +kernel) (pa_cons (pv 6) (pa_cons (pe_callB (call_max2 rfl) (by rfl) T.b_max (by decide +kernel) (pa_cons pe_int (pa_cons (pe_op op_sub (pe_op op_add (pe_ix (ix_listK (K := K)) (pv 1) (pv 5) (fun _ _ => rfl)) (pe_ix (ix_listK (K := K)) (pv 0) (pv 4) (fun _ _ => rfl))) (pv 2)) pa_nil))) pa_nil))))) pss_nil)
      (pss_cons (ps_if (pt_cmp (pc_eqI (pv 3) pe_int)) (pss_cons (ps_set (i := 10) sc__law_sample.nd rfl (Or.inl rfl) (pe_op op_cat (pe_op op_cat (pe_lc (own := [("k", 11)]) (g := gName 11) (by rfl) sc__law_sample.nd (pi_range1 rfl T.b_range (pa_cons (pv 7) pa_nil)) (blkOk_by (own := [("k", 11)]) (N := N__law_sample) (sc := defScope s__law_sample) (by decide +kernel)) (fun _ _ _ _ _ => (pg_name (i := 11) sc__law_sample.nd rfl (Or.inl rfl))) (fun _ _ _ _ _ => pts_nil) (fun _ _ _ _ _ => (pe_ix (ix_listK (K := K)) (pv 1) (pe_op op_sub (pe_op op_sub (pv 7) pe_int) (pv 11)) (fun _ _ => rfl)))) (pe_lst (pa_cons (pv 2) pa_nil))) (pv 0)))
      (pss_cons (ps_set (i := 11) sc__law_sample.nd rfl (Or.inl rfl) (pe_op op_sub (pe_op op_add (pv 7) (pv 4)) (pv 5)))
      (pss_one (ps_ret (pe_op op_shr (pe_op op_add (pe_op op_add (pe_op op_add (pe_ix (ix_listK (K := K)) (pv 10) (pe_op op_sub (pv 11) pe_int) (fun _ _ => rfl)) (pe_op op_mul pe_int (pe_ix (ix_listK (K := K)) (pv 10) (pv 11) (fun _ _ => rfl)))) (pe_ix (ix_listK (K := K)) (pv 10) (pe_op op_add (pv 11) pe_int) (fun _ _ => rfl))) pe_int) pe_int))))) pss_nil)
      (pss_cons (ps_setLc (i := 12) (y := "places") rfl sc__law_sample.nd rfl rfl (sw_true rfl rfl rfl (by decide +kernel)) (own := [("k", 11)]) (g := gName 11) (pi_range1 rfl T.b_range (pa_cons pe_int pa_nil)) (blkOk_by (own := [("k", 11)]) (N := N__law_sample) (sc := defScope s__law_sample) (by decide +kernel)) (fun _ _ _ _ _ => (pg_name (i := 11) sc__law_sample.nd rfl (Or.inl rfl))) (fun _ _ _ _ _ => pts_nil) (fun _ _ _ _ _ => (pe_callB (call_min2 rfl) (by rfl) T.b_min (by decide +kernel) (pa_cons (pe_op op_sub (pv 7) pe_int) (pa_cons (pe_op op_add (pe_op op_add (pv 4) (pv 5)) (pv 11)) pa_nil)))))
      (pss_one (ps_ret (pe_op op_shr (pe_op op_add (pe_op op_add (pe_op op_add (pe_ix (ix_listK (K := K)) (pv 0) (pe_ix (ix_listK (K := K)) (pv 12) pe_int (fun _ _ => rfl)) (fun _ _ => rfl)) (pe_op op_mul pe_int (pe_ix (ix_listK (K := K)) (pv 0) (pe_ix (ix_listK (K := K)) (pv 12) pe_int (fun _ _ => rfl)) (fun _ _ => rfl)))) (pe_ix (ix_listK (K := K)) (pv 0) (pe_ix (ix_listK (K := K)) (pv 12) pe_int (fun _ _ => rfl)) (fun _ _ => rfl))) pe_int) pe_int))))))))))))), ?_⟩
    obtain ⟨KK, EE, hK0, hE, hw⟩ := cW_gen hw
    have S0 := Sep.startG sG
    unfold F__law_sample at hw
    refine ⟨_, rfl, _, _, rfl, (SqL.of (S0.bM _ _ q_above)), ?_⟩
    have hw := cW_bnd hw
    refine ⟨(by show 2 ≤ sizeLine; decide), fun p1521 n1522 => ?_⟩
    generalize g1523 : upd H p1521 _ = H1524
    obtain ⟨e1525, h1526⟩ := gen_new n1522 g1523
    have h1527 : H1524 p1521 = some (.lst (([3, 4] : (List Int)).map V.int)) := h1526
    have fr1528 := S0.free n1522
    have S1529 := S0.new n1522 e1525 h1527 fr1528
    refine ⟨_, rfl, _, _, rfl, rfl, .inr ⟨_, rfl, ?_⟩⟩
    obtain ⟨g1530, hw⟩ := cW_grd hw
    refine ⟨_, _, _, _, rfl, rfl, (SqL.of h1527), (atI_map g1530), ?_⟩
    have hw := cW_bnd hw
    refine ⟨_, rfl, _, _, rfl, rfl, _, rfl, ?_⟩
    refine iteD (fun c1532 => ?_) (fun c1532 => ?_)
    · have hw := cW_pos c1532 hw
      obtain ⟨g1533, hw⟩ := cW_grd hw
      refine ⟨_, rfl, _, _, rfl, (SqL.of (S1529.bM _ _ q_above)), _, rfl, _, _, rfl, (SqL.of (S1529.bM _ _ q_left)), _, _, rfl, rfl, _, rfl, _, _, rfl, rfl, _, rfl, _, _, rfl, rfl, g1533, ?_⟩
      have hw := cW_ok hw
      exact hK0 _ hw _ S1529.b0
    · have hw := cW_neg c1532 hw
      refine ⟨_, rfl, _, _, rfl, rfl, _, rfl, ?_⟩
      refine iteD (fun c1534 => ?_) (fun c1534 => ?_)
      · have hw := cW_pos c1534 hw
        obtain ⟨g1535, hw⟩ := cW_grd hw
        refine ⟨_, rfl, _, rfl, _, _, _, _, rfl, rfl, (SqL.of (S1529.bM _ _ q_above)), (atI_map g1535), ?_⟩
        have hw := cW_ok hw
        exact hK0 _ hw _ S1529.b0
      · have hw := cW_neg c1534 hw
        refine ⟨_, rfl, _, _, rfl, rfl, _, rfl, ?_⟩
        refine iteD (fun c1536 => ?_) (fun c1536 => ?_)
        · have hw := cW_pos c1536 hw
          obtain ⟨g1537, hw⟩ := cW_grd hw
          refine ⟨_, rfl, _, rfl, _, _, _, _, rfl, rfl, (SqL.of (S1529.bM _ _ q_left)), (atI_map g1537), ?_⟩
          have hw := cW_ok hw
          exact hK0 _ hw _ S1529.b0
        · have hw := cW_neg c1536 hw
          refine ⟨_, rfl, _, _, rfl, rfl, _, rfl, ?_⟩
          refine iteD (fun c1538 => ?_) (fun c1538 => ?_)
          · have hw := cW_pos c1538 hw
            obtain ⟨g1539, hw⟩ := cW_grd hw
            obtain ⟨g1540, hw⟩ := cW_grd hw
            obtain ⟨g1541, hw⟩ := cW_grd hw
            obtain ⟨g1542, hw⟩ := cW_grd hw
            obtain ⟨g1543, hw⟩ := cW_grd hw
            obtain ⟨g1544, hw⟩ := cW_grd hw
            obtain ⟨g1545, hw⟩ := cW_grd hw
            obtain ⟨g1546, hw⟩ := cW_grd hw
            refine ⟨_, rfl, _, _, rfl, rfl, _, rfl, _, _, rfl, rfl, _, rfl, _, rfl, _, _, _, _, rfl, rfl, (SqL.of (S1529.bM _ _ q_above)), (atI_map g1539), _, _, rfl, rfl, g1540, _, rfl, _, _, rfl, rfl, _, rfl, _, rfl, _, _, rfl, rfl, _, _, _, _, rfl, rfl, (SqL.of (S1529.bM _ _ q_left)), (atI_map g1541), _, _, rfl, rfl, g1542, _, _, rfl, rfl, _, rfl, _, _, rfl, rfl, _, rfl, _, _, rfl, rfl, _, rfl, _, rfl, _, _, _, _, rfl, rfl, (SqL.of (S1529.bM _ _ q_left)), (atI_map g1543), _, _, rfl, rfl, g1544, _, _, rfl, rfl, _, rfl, _, _, rfl, rfl, _, rfl, _, rfl, _, _, rfl, rfl, _, _, _, _, rfl, rfl, (SqL.of (S1529.bM _ _ q_above)), (atI_map g1545), _, _, rfl, rfl, g1546, _, _, rfl, rfl, ?_⟩
            have hw := cW_bnd hw
            obtain ⟨g1548, hw⟩ := cW_grd hw
            refine ⟨_, rfl, _, rfl, _, _, rfl, rfl, _, rfl, _, _, rfl, rfl, g1548, ?_⟩
            have hw := cW_ok hw
            exact hK0 _ hw _ S1529.b0
          · have hw := cW_neg c1538 hw
            refine ⟨_, rfl, _, _, rfl, rfl, _, rfl, ?_⟩
            refine iteD (fun c1549 => ?_) (fun c1549 => ?_)
            · have hw := cW_pos c1549 hw
              obtain ⟨g1550, hw⟩ := cW_grd hw
              obtain ⟨g1551, hw⟩ := cW_grd hw
              refine ⟨_, rfl, _, rfl, _, _, _, _, rfl, rfl, (SqL.of (S1529.bM _ _ q_left)), (atI_map g1550), _, rfl, _, rfl, _, _, _, _, rfl, rfl, (SqL.of (S1529.bM _ _ q_above)), (atI_map g1551), _, rfl, rfl, rfl, G, _, _, _, rfl, S1529.sG, cW_call hw (fun v1552 hw H1553 e1554 => ?_) (fun e he H2 e2 => hE e he H2 (Same.trans S1529.b0 e2))⟩
              have S1555 := S1529.same e1554
              have hw := cW_ok hw
              exact hK0 _ hw _ S1555.b0
            · have hw := cW_neg c1549 hw
              refine ⟨_, rfl, _, _, rfl, rfl, _, rfl, ?_⟩
              refine iteD (fun c1556 => ?_) (fun c1556 => ?_)
              · have hw := cW_pos c1556 hw
                obtain ⟨g1557, hw⟩ := cW_grd hw
                obtain ⟨g1558, hw⟩ := cW_grd hw
                refine ⟨_, rfl, _, rfl, _, rfl, _, _, _, _, rfl, rfl, (SqL.of (S1529.bM _ _ q_left)), (atI_map g1557), _, rfl, _, rfl, _, _, _, _, rfl, rfl, (SqL.of (S1529.bM _ _ q_above)), (atI_map g1558), _, _, rfl, rfl, _, rfl, _, _, rfl, rfl, _, _, rfl, _, _, rfl, ?_⟩
                have hw := cW_ok hw
                exact hK0 _ hw _ S1529.b0
              · have hw := cW_neg c1556 hw
                refine ⟨_, rfl, _, _, rfl, rfl, _, rfl, ?_⟩
                refine iteD (fun c1559 => ?_) (fun c1559 => ?_)
                · have hw := cW_pos c1559 hw
                  obtain ⟨g1560, hw⟩ := cW_grd hw
                  obtain ⟨K1564, hK1565, hw⟩ := cW_push hw
                  refine ⟨_, rfl, _, rfl, g1560.1, g1560.2, fun D1566 n1567 => lc_range (lo := 0) (n := Int.toNat ((((above') : (List Int)).length : Int))) (fun i H' => ∃ (G' : Hp) (acc1569 : (List Int)), Same G G' ∧ Sep [] H G G' H' [D1566] ∧ H' D1566 = some (.lst ((acc1569 : (List Int)).map V.int)) ∧ Same H1524 H' ∧ cW (mapA (List.drop i (rng (0) (Int.toNat ((((above') : (List Int)).length : Int))))) acc1569 (fun x => noEr (F__law_sample_c1 (left') ((((above') : (List Int)).length : Int)) x))) K1564 EE) ?_ ?_ ?_⟩
                  · generalize g1571 : upd H1524 D1566 _ = H1572
                    obtain ⟨e1573, h1574⟩ := gen_new n1567 g1571
                    have fr1575 := S1529.free n1567
                    have S1576 := S1529.new n1567 e1573 h1574 fr1575
                    exact ⟨_, [], Same.refl _, (S1576.sub (all_cons (.head _) all_nil)), h1574, e1573, hw⟩
                  · intro i H1577 hi hw
                    obtain ⟨G1580, acc1582, eG1581, S1578, h1579, eo1588, hw⟩ := hw
                    obtain ⟨z1589, hw⟩ := cW_mapA (rng_get hi) hw
                    generalize (0 + (i : Int)) = x1590 at hw ⊢
                    have hw := cW_noEr hw
                    have hw : cW (F__law_sample_c1 (left') ((((above') : (List Int)).length : Int)) (x1590)) _ (fun _ => False) := hw
                    unfold F__law_sample_c1 at hw
                    refine ⟨rfl, ?_⟩
                    refine tyes_go ?_
                    obtain ⟨g1592, hw⟩ := cW_grd hw
                    refine ⟨_, rfl, _, rfl, _, _, rfl, rfl, _, rfl, _, _, rfl, rfl, _, _, _, _, rfl, rfl, (SqL.of (S1578.bM _ _ q_left)), (atI_map g1592), _, h1579, (app_lenM z1589), ?_⟩
                    generalize g1593 : upd H1577 D1566 _ = H1594
                    obtain ⟨x1595, h1596⟩ := gen_mut g1593
                    have S1597 := S1578.mut1 x1595 (.head _) h1596
                    have hw := cW_ok hw
                    exact ⟨_, (acc1582 ++ [(itD (left') ((((((above') : (List Int)).length : Int) - 1) - x1590)))]), eG1581, S1597, (snoc_map h1596), (same_mut eo1588 x1595 n1567), hw⟩
                  intro H1598 hw
                  obtain ⟨G1601, acc1603, eG1602, S1599, h1600, eo1609, hw⟩ := hw
                  have hw := hK1565 _ (cW_mapA0 (rng_len _ _).symm hw)
                  have fr1610 := S1529.free n1567
                  refine ⟨_, rfl, (by show 1 ≤ sizeLine; decide), fun p1611 n1612 => ?_⟩
                  generalize g1613 : upd H1598 p1611 _ = H1614
                  obtain ⟨e1615, h1616⟩ := gen_new n1612 g1613
                  have h1617 : H1614 p1611 = some (.lst (([corner'] : (List Int)).map V.int)) := h1616
                  have fr1618 := S1599.free n1612
                  have S1619 := S1599.new n1612 e1615 h1617 fr1618
                  obtain ⟨g1620, hw⟩ := cW_grd hw
                  have h1621 := (e1615 _ _ h1600)
                  refine ⟨_, _, _, _, rfl, rfl, h1621, h1617, (cat_lenM g1620), fun p1622 n1623 => ?_⟩
                  generalize g1624 : upd H1614 p1622 _ = H1625
                  obtain ⟨e1626, h1627⟩ := gen_new n1623 g1624
                  have h1628 : H1625 p1622 = some (.lst (((acc1603) ++ ([corner']) : (List Int)).map V.int)) := cat_map h1627
                  have fr1629 := S1619.free n1623
                  have S1630 := S1619.new n1623 e1626 h1628 fr1629
                  obtain ⟨g1631, hw⟩ := cW_grd hw
                  refine ⟨_, rfl, _, _, _, _, rfl, rfl, h1628, (S1630.bM _ _ q_above), (cat_lenM g1631), fun p1632 n1633 => ?_⟩
                  generalize g1634 : upd H1625 p1632 _ = H1635
                  obtain ⟨e1636, h1637⟩ := gen_new n1633 g1634
                  have h1638 : H1635 p1632 = some (.lst ((((acc1603) ++ ([corner'])) ++ (above') : (List Int)).map V.int)) := cat_map h1637
                  have fr1639 := S1630.free n1633
                  have S1640 := S1630.new n1633 e1636 h1638 fr1639
                  refine ⟨_, rfl, _, rfl, _, _, rfl, rfl, _, rfl, _, _, rfl, rfl, ?_⟩
                  have hw := cW_bnd hw
                  obtain ⟨g1642, hw⟩ := cW_grd hw
                  obtain ⟨g1643, hw⟩ := cW_grd hw
                  obtain ⟨g1644, hw⟩ := cW_grd hw
                  refine ⟨_, rfl, _, rfl, _, _, rfl, rfl, _, _, _, _, rfl, rfl, (SqL.of h1638), (atI_map g1642), _, rfl, _, rfl, _, _, _, _, rfl, rfl, (SqL.of h1638), (atI_map g1643), _, _, rfl, rfl, (.inl ⟨by decide, by decide⟩), _, _, rfl, rfl, _, rfl, _, rfl, _, _, rfl, rfl, _, _, _, _, rfl, rfl, (SqL.of h1638), (atI_map g1644), _, _, rfl, rfl, _, _, rfl, rfl, _, _, rfl, rfl, (show (0 : Int) ≤ 2 by decide), ?_⟩
                  have hw := cW_ok hw
                  exact hK0 _ hw _ S1640.b0
                · have hw := cW_neg c1559 hw
                  obtain ⟨K1649, hK1650, hw⟩ := cW_push hw
                  refine ⟨_, rfl, (by decide), (by decide), fun D1651 n1652 => lc_range (lo := 0) (n := Int.toNat (3)) (fun i H' => ∃ (G' : Hp) (acc1654 : (List Int)), Same G G' ∧ Sep [] H G G' H' [D1651] ∧ H' D1651 = some (.lst ((acc1654 : (List Int)).map V.int)) ∧ Same H1524 H' ∧ cW (mapA (List.drop i (rng (0) (Int.toNat (3)))) acc1654 (fun x => noEr (F__law_sample_c2 (i') (j') ((((above') : (List Int)).length : Int)) x))) K1649 EE) ?_ ?_ ?_⟩
                  · generalize g1656 : upd H1524 D1651 _ = H1657
                    obtain ⟨e1658, h1659⟩ := gen_new n1652 g1656
                    have fr1660 := S1529.free n1652
                    have S1661 := S1529.new n1652 e1658 h1659 fr1660
                    exact ⟨_, [], Same.refl _, (S1661.sub (all_cons (.head _) all_nil)), h1659, e1658, hw⟩
                  · intro i H1662 hi hw
                    obtain ⟨G1665, acc1667, eG1666, S1663, h1664, eo1673, hw⟩ := hw
                    obtain ⟨z1674, hw⟩ := cW_mapA (rng_get hi) hw
                    generalize (0 + (i : Int)) = x1675 at hw ⊢
                    have hw := cW_noEr hw
                    have hw : cW (F__law_sample_c2 (i') (j') ((((above') : (List Int)).length : Int)) (x1675)) _ (fun _ => False) := hw
                    unfold F__law_sample_c2 at hw
                    refine ⟨rfl, ?_⟩
                    refine tyes_go ?_
                    refine ⟨_, rfl, _, _, rfl, rfl, _, rfl, _, rfl, _, _, rfl, rfl, _, rfl, _, _, rfl, rfl, _, _, rfl, _, h1664, (app_lenM z1674), ?_⟩
                    generalize g1677 : upd H1662 D1651 _ = H1678
                    obtain ⟨x1679, h1680⟩ := gen_mut g1677
                    have S1681 := S1663.mut1 x1679 (.head _) h1680
                    have hw := cW_ok hw
                    exact ⟨_, (acc1667 ++ [(if ((i' + j') + x1675) < ((((above') : (List Int)).length : Int) - 1) then ((i' + j') + x1675) else ((((above') : (List Int)).length : Int) - 1))]), eG1666, S1681, (snoc_map h1680), (same_mut eo1673 x1679 n1652), hw⟩
                  intro H1682 hw
                  obtain ⟨G1685, acc1687, eG1686, S1683, h1684, eo1693, hw⟩ := hw
                  have hw := hK1650 _ (cW_mapA0 (rng_len _ _).symm hw)
                  have fr1694 := S1529.free n1652
                  obtain ⟨g1695, hw⟩ := cW_grd hw
                  obtain ⟨g1696, hw⟩ := cW_grd hw
                  obtain ⟨g1697, hw⟩ := cW_grd hw
                  obtain ⟨g1698, hw⟩ := cW_grd hw
                  obtain ⟨g1699, hw⟩ := cW_grd hw
                  obtain ⟨g1700, hw⟩ := cW_grd hw
                  refine ⟨_, rfl, _, rfl, _, _, _, _, rfl, rfl, (SqL.of h1684), (atI_map g1695), _, _, _, _, rfl, rfl, (SqL.of (S1683.bM _ _ q_above)), (atI_map g1696), _, rfl, _, rfl, _, _, _, _, rfl, rfl, (SqL.of h1684), (atI_map g1697), _, _, _, _, rfl, rfl, (SqL.of (S1683.bM _ _ q_above)), (atI_map g1698), _, _, rfl, rfl, (.inl ⟨by decide, by decide⟩), _, _, rfl, rfl, _, rfl, _, rfl, _, _, _, _, rfl, rfl, (SqL.of h1684), (atI_map g1699), _, _, _, _, rfl, rfl, (SqL.of (S1683.bM _ _ q_above)), (atI_map g1700), _, _, rfl, rfl, _, _, rfl, rfl, _, _, rfl, rfl, (show (0 : Int) ≤ 2 by decide), ?_⟩
                  have hw := cW_ok hw
                  exact hK0 _ hw _ S1683.b0

abbrev N_law : List Str := ["script", "draws", "top", "around", "kept", "n", "mode", "due", "actual", "spoilt", "j", "i", "row"]
theorem sc_law : FnScope N_law ["script"] (defScope s_law) := ⟨rfl, rfl, rfl, by decide +kernel, rfl, by decide +kernel, by decide +kernel⟩
theorem ok_law {f : Addr} {fd : FuncData} (F : FunD K "law" "law" (defArgs s_law) (defBody s_law) (defScope s_law) [] [] f fd) (T : Txt K mg AD) (c__law_draws : CalX P w K mg base 1 "_law_draws" (sp__law_draws K AD) pats__law_draws) (c__law_cell : CalX P w K mg base 1 "_law_cell" (sp__law_cell K AD) pats__law_cell) (c__law_around : CalX P w K mg base 2 "_law_around" (sp__law_around K AD) pats__law_around) (c__law_sample : CalX P w K mg base 2 "_law_sample" (sp__law_sample K AD) pats__law_sample) (c_predict_area : CalX P w K mg base 3 "predict_area" (sp_predict_area K AD) pats_predict_area) (c__law_refused : CalX P w K mg base 4 "_law_refused" (sp__law_refused K AD) pats__law_refused) : FnG P w K mg base CX0 5 f fd ["script"] (sp_law K AD) := by
  refine FnG.bodyN F sc_law (fun vs H Q E h => ?_) (fun cdv A_ outer s H vs Q E hr h => ?_)
  · obtain ⟨a_script, script, rfl, _⟩ := h
    rfl
  · obtain ⟨a_script, script', rfl, q_script, hw, k⟩ := h
    refine ⟨_, (pss_cons (ps_set (i := 1) sc_law.nd rfl (Or.inl rfl) (vx_callX c__law_draws pat__law_draws_0 (.head _) hr (by decide) takes0 rfl (pa_cons (vx_callX c__law_cell pat__law_cell_0 (.head _) hr (by decide) takes0 rfl (pa_cons (pv 0) (pa_cons pe_int pa_nil)) pk_nil) (pa_cons (pe_lst (pa_cons pe_int (pa_cons pe_int (pa_cons pe_int pa_nil)))) pa_nil)) pk_nil))
      (pss_cons (ps_set (i := 2) sc_law.nd rfl (Or.inr rfl) (pe_op op_sub (pe_op op_shlW pe_int (pe_op op_add pe_int (pe_ix (ix_listK (K := K)) (pv 1) pe_int (fun _ _ => rfl)))) pe_int))
      (pss_cons (ps_set (i := 3) sc_law.nd rfl (Or.inl rfl) (vx_callX c__law_around pat__law_around_0 (.head _) hr (by decide) takes0 rfl (pa_cons (vx_callX c__law_cell pat__law_cell_0 (.head _) hr (by decide) takes0 rfl (pa_cons (pv 0) (pa_cons pe_int pa_nil)) pk_nil) (pa_cons (pv 2) pa_nil)) pk_nil))
      (pss_cons (ps_set (i := 4) sc_law.nd rfl (Or.inr rfl) (pe_tup (pa_cons (pe_callTy (call_listLK (K := K)) (by rfl) T.b_list (by decide +kernel) (pa_cons (pe_ix (ix_tupK (K := K)) (pv 3) pe_int (fun _ _ => rfl)) pa_nil)) (pa_cons (pe_callTy (call_listLK (K := K)) (by rfl) T.b_list (by decide +kernel) (pa_cons (pe_ix (ix_tupK (K := K)) (pv 3) pe_int (fun _ _ => rfl)) pa_nil)) (pa_cons (pe_ix (ix_tupK (K := K)) (pv 3) pe_int (fun _ _ => rfl)) pa_nil)))))
      (pss_cons (ps_set (i := 5) sc_law.nd rfl (Or.inr rfl) (pe_callB (call_lenLiK (K := K)) (by rfl) T.b_len (by decide +kernel) (pa_cons (pe_ix (ix_tupK (K := K)) (pv 3) pe_int (fun _ _ => rfl)) pa_nil)))
      (pss_cons (ps_for PassesOwn.never rfl (pi_range1 rfl T.b_range (pa_cons pe_int pa_nil)) (pg_name (i := 6) sc_law.nd rfl (Or.inr rfl)) (pss_cons (ps_setLc (i := 7) (y := "due") rfl sc_law.nd rfl rfl (sw_true rfl rfl rfl (by decide +kernel)) (own := [("j", 10)]) (g := gName 10) (pi_range1 rfl T.b_range (pa_cons (pv 5) pa_nil)) (blkOk_by (own := [("j", 10)]) (N := N_law) (sc := defScope s_law) (by decide +kernel)) (fun _ _ _ _ _ => (pg_name (i := 10) sc_law.nd rfl (Or.inr rfl))) (fun _ _ _ _ _ => pts_nil) (fun _ _ _ _ _ => (pe_lc (own := [("i", 11)]) (g := gName 11) (by rfl) sc_law.nd (pi_range1 rfl T.b_range (pa_cons (pv 5) pa_nil)) (blk_relabel (blkOk_by (own := [("i", 11)]) (N := N_law) (by decide +kernel))) (fun _ _ _ _ _ => (pg_name (i := 11) sc_law.nd rfl (Or.inl rfl))) (fun _ _ _ _ _ => pts_nil) (fun _ _ _ _ _ => (vx_callX c__law_sample pat__law_sample_0 (.head _) hr (by decide) takes0 rfl (pa_cons (pe_ix (ix_tupK (K := K)) (pv 4) pe_int (fun _ _ => rfl)) (pa_cons (pe_ix (ix_tupK (K := K)) (pv 4) pe_int (fun _ _ => rfl)) (pa_cons (pe_ix (ix_tupK (K := K)) (pv 4) pe_int (fun _ _ => rfl)) (pa_cons (pv 6) (pa_cons (pv 11) (pa_cons (pv 10) (pa_cons (pv 2) pa_nil))))))) pk_nil)))))
      (pss_cons (ps_set (i := 8) sc_law.nd rfl (Or.inl rfl) (vx_callX c_predict_area pat_predict_area_0 (.head _) hr (by decide) takes0 rfl (pa_cons (pe_ix (ix_tupK (K := K)) (pv 3) pe_int (fun _ _ => rfl)) (pa_cons (pe_ix (ix_tupK (K := K)) (pv 3) pe_int (fun _ _ => rfl)) (pa_cons (pe_ix (ix_tupK (K := K)) (pv 3) pe_int (fun _ _ => rfl)) (pa_cons (pv 6) pa_nil)))) (pk_cons (pv 2) pk_nil)))
      (pss_cons (ps_if (PW.pt (pw_or (pt_not (pt_val (pe_callB call_isi (by rfl) T.b_isinstance (by decide +kernel) (pa_cons (pv 8) (pa_cons (pe_bltn (v := V.ty "list") (u := Value.type "list") (by rfl) T.b_list (by decide +kernel) rfl) pa_nil))))) (pw_or (pt_cmpR (op_neT (encOk_L (encOk_L encOk_int)) hr.units) (pv 8) (pv 7) (nomark _)) (pw_or1 (pt_cmpR (op_neT (encOk_T3 (encOk_L encOk_int) (encOk_L encOk_int) encOk_int) hr.units) (pv 3) (pv 4) (nomark _)))))) (pss_one (ps_ret pe_bl)) pss_nil)
      (pss_cons (ps_asg (pe_un un_neg pe_int) (pg_sub (pe_ix (ix_listK (K := K)) (pv 8) pe_int (fun _ _ => rfl)) pe_int set_list))
      (pss_cons (ps_expr (pe_bm PySem.F.plainAttrs_list PySem.F.slot_list_append PySem.F.type_list_append mt_append (pe_ix (ix_listK (K := K)) (pv 8) (pe_un un_neg pe_int) (fun _ _ => rfl)) (pa_cons pe_int pa_nil)))
      (pss_cons (ps_setLc (i := 9) (y := "spoilt") rfl sc_law.nd rfl rfl (sw_true rfl rfl rfl (by decide +kernel)) (own := [("row", 12)]) (g := gName 12) (pi_listK (K := K) (pv 7)) (blkOk_by (own := [("row", 12)]) (N := N_law) (sc := defScope s_law) (by decide +kernel)) (fun _ _ _ _ _ => (pg_name (i := 12) sc_law.nd rfl (Or.inl rfl))) (fun _ _ _ _ _ => pts_nil) (fun _ _ _ _ _ => (pe_callTy (call_listLK (K := K)) (by rfl) T.b_list (by decide +kernel) (pa_cons (pv 12) pa_nil))))
      (pss_cons (ps_asg (pe_un un_neg pe_int) (pg_sub (pe_ix (ix_listK (K := K)) (pv 9) pe_int (fun _ _ => rfl)) pe_int set_list))
      (pss_cons (ps_expr (pe_bm PySem.F.plainAttrs_list PySem.F.slot_list_append PySem.F.type_list_append mt_append (pe_ix (ix_listK (K := K)) (pv 9) (pe_un un_neg pe_int) (fun _ _ => rfl)) (pa_cons pe_int pa_nil)))
      (pss_cons (ps_if (pt_cmpR (op_neT (encOk_L (encOk_L encOk_int)) hr.units) (pv 8) (pv 9) (nomark _)) (pss_one (ps_ret pe_bl)) pss_nil)
      (pss_one (ps_if (PW.pt (pw_or (pt_cmpR (op_neT (encOk_T3 (encOk_L encOk_int) (encOk_L encOk_int) encOk_int) hr.units) (pv 3) (pv 4) (nomark _)) (pw_or1 (pt_cmpR (op_neT (encOk_L (encOk_L encOk_int)) hr.units) (vx_callX c_predict_area pat_predict_area_0 (.head _) hr (by decide) takes0 rfl (pa_cons (pe_ix (ix_tupK (K := K)) (pv 3) pe_int (fun _ _ => rfl)) (pa_cons (pe_ix (ix_tupK (K := K)) (pv 3) pe_int (fun _ _ => rfl)) (pa_cons (pe_ix (ix_tupK (K := K)) (pv 3) pe_int (fun _ _ => rfl)) (pa_cons (pv 6) pa_nil)))) (pk_cons (pv 2) pk_nil)) (pv 7) (nomark _))))) (pss_one (ps_ret pe_bl)) pss_nil))))))))))))
      (pss_one (ps_ret (vx_callX c__law_refused pat__law_refused_0 (.head _) hr (by decide) takes0 rfl (pa_cons (pv 3) (pa_cons (pe_ix (ix_listK (K := K)) (pe_lst (pa_cons (pe_op op_add pe_int (pe_ix (ix_listK (K := K)) (pv 1) pe_int (fun _ _ => rfl))) (pa_cons (pe_op op_sub (pe_un un_neg pe_int) (pe_ix (ix_listK (K := K)) (pv 1) pe_int (fun _ _ => rfl))) pa_nil))) (pe_ix (ix_listK (K := K)) (pv 1) pe_int (fun _ _ => rfl)) (fun _ _ => rfl)) (pa_cons (pv 2) pa_nil))) pk_nil))))))))), ?_⟩
    obtain ⟨KK, EE, hK0, hE, hw⟩ := cW_gen hw
    have S0 := Sep.start0 H
    unfold F_law at hw
    refine ⟨_, rfl, rfl, rfl, H, _, _, _, rfl, S0.sG, (S0.b0.seq q_script), cW_call hw (fun v1701 hw => ?_) (fun e he => (hE e he).elim)⟩
    refine ⟨(by show 3 ≤ sizeLine; decide), fun p1702 n1703 => ?_⟩
    generalize g1704 : upd H p1702 _ = H1705
    obtain ⟨e1706, h1707⟩ := gen_new n1703 g1704
    have h1708 : H1705 p1702 = some (.lst (([5, 1000, 2] : (List Int)).map V.int)) := h1707
    have fr1709 := S0.free n1703
    have S1710 := S0.new n1703 e1706 h1708 fr1709
    refine ⟨rfl, rfl, H, _, _, _, rfl, S1710.sG, (hide_nil h1708), cW_call hw (fun v1711 hw p1714 H1712 n1715 e1713 h1716 => ?_) (fun e he => (hE e he).elim)⟩
    have h1717 : H1712 p1714 = some (.lst ((v1711 : (List Int)).map V.int)) := h1716
    have fr1718 := S1710.free n1715
    have S1719 := S1710.new n1715 e1713 h1717 fr1718
    obtain ⟨g1720, hw⟩ := cW_grd hw
    obtain ⟨g1721, hw⟩ := cW_grd hw
    refine ⟨_, rfl, _, _, _, _, rfl, rfl, (SqL.of h1717), (atI_map g1720), _, _, rfl, rfl, _, _, rfl, rfl, (shl_side g1721.1 g1721.2.1 g1721.2.2.1 g1721.2.2.2), _, _, rfl, rfl, ?_⟩
    have hw := cW_bnd hw
    refine ⟨_, rfl, rfl, rfl, H, _, _, _, rfl, S1719.sG, (S1719.b0.seq q_script), cW_call hw (fun v1723 hw => ?_) (fun e he => (hE e he).elim)⟩
    refine ⟨_, rfl, rfl, rfl, H, _, _, rfl, S1719.sG, cW_call hw (fun v1724 hw v1727 H1725 G1728 e1726 eG1729 sG1730 hn1731 r1732 => ?_) (fun e he => (hE e he).elim)⟩
    have S1733 := S1719.step e1726 eG1729 sG1730 hn1731
    obtain ⟨a1734, v1736, v1737, v1738, rfl, h1735, r1739, r1740, r1741⟩ := rp_tup3 r1732
    obtain ⟨a1742, rfl, h1743⟩ := rp_ints r1739
    obtain ⟨a1744, rfl, h1745⟩ := rp_ints r1740
    obtain rfl := rp_int r1741
    refine ⟨_, rfl, _, _, _, _, rfl, rfl, (SqT.of (S1733.sG _ _ h1735)), rfl, _, _, rfl, (SqL.of (S1733.sG _ _ h1743)), fun p1746 n1747 => ?_⟩
    generalize g1748 : upd H1725 p1746 _ = H1749
    obtain ⟨e1750, h1751⟩ := gen_new n1747 g1748
    have h1752 : H1749 p1746 = some (.lst ((v1724.1 : (List Int)).map V.int)) := h1751
    have fr1753 := S1733.free n1747
    have S1754 := S1733.new n1747 e1750 h1752 fr1753
    refine ⟨_, rfl, _, _, _, _, rfl, rfl, (SqT.of (S1754.sG _ _ h1735)), rfl, _, _, rfl, (SqL.of (S1754.sG _ _ h1745)), fun p1755 n1756 => ?_⟩
    generalize g1757 : upd H1749 p1755 _ = H1758
    obtain ⟨e1759, h1760⟩ := gen_new n1756 g1757
    have h1761 : H1758 p1755 = some (.lst ((v1724.2.1 : (List Int)).map V.int)) := h1760
    have fr1762 := S1754.free n1756
    have S1763 := S1754.new n1756 e1759 h1761 fr1762
    refine ⟨_, rfl, _, _, _, _, rfl, rfl, (SqT.of (S1763.sG _ _ h1735)), rfl, (by show 3 ≤ sizeLine; decide), fun p1764 n1765 => ?_⟩
    generalize g1766 : upd H1758 p1764 _ = H1767
    obtain ⟨e1768, h1769⟩ := gen_new n1765 g1766
    have h1770 : H1767 p1764 = some (.tup [V.ref p1746, V.ref p1755, V.int (v1724.2.2)]) := h1769
    have fr1771 := S1763.free n1765
    obtain ⟨G1773, eG1774, hg1775, S1772⟩ := S1763.grow n1765 e1768 h1770 fr1771
    refine ⟨_, rfl, _, _, _, _, rfl, rfl, (SqT.of (S1772.sG _ _ (eG1774 _ _ h1735))), rfl, _, _, rfl, (SqL.of (S1772.sG _ _ (eG1774 _ _ h1743))), ?_⟩
    have hw := cW_bnd hw
    obtain ⟨K1784, hK1785, hw⟩ := cW_push hw
    refine ⟨_, rfl, (by decide), (by decide), for_range (lo := 0) (n := Int.toNat (8)) (fun i σ H' => ∃ (u1786 : Option V) (u1787 : Option V) (u1788 : Option V) (u1789 : Option V) (G' : Hp), σ = [some (V.ref a_script), some (V.ref p1714), some (V.int (((1 * 2 ^ Int.toNat ((8 + (itD (v1711) (0))))) - 1))), some (V.ref a1734), some (V.ref p1764), some (V.int ((((v1724.1) : (List Int)).length : Int))), u1786, u1787, u1788, u1789, none, none, none] ∧ Same G1773 G' ∧ Sep [] H H G' H' [p1714, p1746, p1755] ∧ H' p1714 = some (.lst ((v1711 : (List Int)).map V.int)) ∧ H' p1746 = some (.lst ((v1724.1 : (List Int)).map V.int)) ∧ H' p1755 = some (.lst ((v1724.2.1 : (List Int)).map V.int)) ∧ cW (forR (List.drop i (rng (0) (Int.toNat (8)))) () (fun s x => F_law_b1 (((1 * 2 ^ Int.toNat ((8 + (itD (v1711) (0))))) - 1)) (v1724) ((v1724.1, v1724.2.1, v1724.2.2)) ((((v1724.1) : (List Int)).length : Int))  x)) K1784 EE) ?_ ?_ ?_⟩
    · have h1790 := (e1768 _ _ (e1759 _ _ (e1750 _ _ (e1726 _ _ h1717))))
      have h1791 := (e1768 _ _ (e1759 _ _ h1752))
      have h1792 := (e1768 _ _ h1761)
      exact ⟨_, _, _, _, _, rfl, (Same.refl _), (S1772.sub (all_cons (.tail _ (.tail _ (.head _))) (all_cons (.tail _ (.head _)) (all_cons (.head _) all_nil)))), h1790, h1791, h1792, hw⟩
    · intro i σ H1793 hi hw
      obtain ⟨u1786, u1787, u1788, u1789, G1798, rfl, eG1799, S1794, h1795, h1796, h1797, hw⟩ := hw
      have hw := cW_forR (rng_get hi) hw
      generalize (0 + (i : Int)) = x1800 at hw ⊢
      have hw : cW (F_law_b1 (((1 * 2 ^ Int.toNat ((8 + (itD (v1711) (0))))) - 1)) (v1724) ((v1724.1, v1724.2.1, v1724.2.2)) ((((v1724.1) : (List Int)).length : Int))  (x1800)) _ EE := hw
      unfold F_law_b1 at hw
      obtain ⟨K1801, hK1802, hw⟩ := cW_name hw
      obtain ⟨g1804, hw⟩ := cW_grd hw
      obtain ⟨K1810, hK1811, hw⟩ := cW_push hw
      refine ⟨_, rfl, _, rfl, g1804.1, g1804.2, fun D1812 n1813 => lc_range (lo := 0) (n := Int.toNat ((((v1724.1) : (List Int)).length : Int))) (fun i H' => ∃ (G' : Hp) (acc1815 : (List (List Int))) (vs1816 : List V), Same G1798 G' ∧ Sep [] H H G' H' [D1812, p1746, p1755, p1714] ∧ H' p1746 = some (.lst ((v1724.1 : (List Int)).map V.int)) ∧ H' p1755 = some (.lst ((v1724.2.1 : (List Int)).map V.int)) ∧ H' p1714 = some (.lst ((v1711 : (List Int)).map V.int)) ∧ H' D1812 = some (.lst vs1816) ∧ RpAll G' vs1816 ((acc1815 : (List (List Int))).map (encL PyData.int)) ∧ Same H1793 H' ∧ cW (mapA (List.drop i (rng (0) (Int.toNat ((((v1724.1) : (List Int)).length : Int))))) acc1815 (fun x => noEr (F_law_c2 (((1 * 2 ^ Int.toNat ((8 + (itD (v1711) (0))))) - 1)) ((v1724.1, v1724.2.1, v1724.2.2)) ((((v1724.1) : (List Int)).length : Int)) (x1800) x))) K1810 EE) ?_ ?_ ?_⟩
      · generalize g1817 : upd H1793 D1812 _ = H1818
        obtain ⟨e1819, h1820⟩ := gen_new n1813 g1817
        have fr1821 := S1794.free n1813
        have S1822 := S1794.new n1813 e1819 h1820 fr1821
        have h1823 := (e1819 _ _ h1796)
        have h1824 := (e1819 _ _ h1797)
        have h1825 := (e1819 _ _ h1795)
        exact ⟨_, [], [], Same.refl _, (S1822.sub (all_cons (.head _) (all_cons (.tail _ (.tail _ (.head _))) (all_cons (.tail _ (.tail _ (.tail _ (.head _)))) (all_cons (.tail _ (.head _)) all_nil))))), h1823, h1824, h1825, h1820, RpAll.nil, e1819, hw⟩
      · intro i H1826 hi hw
        obtain ⟨G1829, acc1831, vs1832, eG1830, S1827, h1838, h1839, h1840, h1828, d1833, eo1837, hw⟩ := hw
        obtain ⟨z1841, hw⟩ := cW_mapA (rng_get hi) hw
        generalize (0 + (i : Int)) = x1842 at hw ⊢
        have hw := cW_noEr hw
        have hw : cW (F_law_c2 (((1 * 2 ^ Int.toNat ((8 + (itD (v1711) (0))))) - 1)) ((v1724.1, v1724.2.1, v1724.2.2)) ((((v1724.1) : (List Int)).length : Int)) (x1800) (x1842)) _ (fun _ => False) := hw
        unfold F_law_c2 at hw
        refine ⟨rfl, ?_⟩
        refine tyes_go ?_
        obtain ⟨g1844, hw⟩ := cW_grd hw
        obtain ⟨K1850, hK1851, hw⟩ := cW_push hw
        refine ⟨_, rfl, _, rfl, g1844.1, g1844.2, fun D1852 n1853 => lc_range (lo := 0) (n := Int.toNat ((((v1724.1) : (List Int)).length : Int))) (fun i2 H' => ∃ (G' : Hp) (acc1855 : (List Int)), Same G1829 G' ∧ Sep [] H H G' H' [D1852, p1746, p1755, p1714, D1812] ∧ H' p1746 = some (.lst ((v1724.1 : (List Int)).map V.int)) ∧ H' p1755 = some (.lst ((v1724.2.1 : (List Int)).map V.int)) ∧ H' p1714 = some (.lst ((v1711 : (List Int)).map V.int)) ∧ H' D1812 = some (.lst (vs1832)) ∧ H' D1852 = some (.lst ((acc1855 : (List Int)).map V.int)) ∧ Same H1826 H' ∧ cW (mapA (List.drop i2 (rng (0) (Int.toNat ((((v1724.1) : (List Int)).length : Int))))) acc1855 (fun x => noEr (F_law_c3 (((1 * 2 ^ Int.toNat ((8 + (itD (v1711) (0))))) - 1)) ((v1724.1, v1724.2.1, v1724.2.2)) (x1800) (x1842) x))) K1850 (fun _ => False)) ?_ ?_ ?_⟩
        · generalize g1857 : upd H1826 D1852 _ = H1858
          obtain ⟨e1859, h1860⟩ := gen_new n1853 g1857
          have fr1861 := S1827.free n1853
          have S1862 := S1827.new n1853 e1859 h1860 fr1861
          have h1863 := (e1859 _ _ h1838)
          have h1864 := (e1859 _ _ h1839)
          have h1865 := (e1859 _ _ h1840)
          have h1866 := (e1859 _ _ h1828)
          exact ⟨_, [], Same.refl _, (S1862.sub (all_cons (.head _) (all_cons (.tail _ (.tail _ (.head _))) (all_cons (.tail _ (.tail _ (.tail _ (.head _)))) (all_cons (.tail _ (.tail _ (.tail _ (.tail _ (.head _))))) (all_cons (.tail _ (.head _)) all_nil)))))), h1863, h1864, h1865, h1866, h1860, e1859, hw⟩
        · intro i2 H1867 hi hw
          obtain ⟨G1870, acc1872, eG1871, S1868, h1879, h1880, h1881, h1882, h1869, eo1878, hw⟩ := hw
          obtain ⟨z1883, hw⟩ := cW_mapA (rng_get hi) hw
          generalize (0 + (i2 : Int)) = x1884 at hw ⊢
          have hw := cW_noEr hw
          have hw : cW (F_law_c3 (((1 * 2 ^ Int.toNat ((8 + (itD (v1711) (0))))) - 1)) ((v1724.1, v1724.2.1, v1724.2.2)) (x1800) (x1842) (x1884)) _ (fun _ => False) := hw
          unfold F_law_c3 at hw
          refine ⟨rfl, ?_⟩
          refine tyes_go ?_
          refine ⟨_, rfl, _, _, _, _, rfl, rfl, (SqT.of (S1868.sG _ _ (eG1871 _ _ (eG1830 _ _ (eG1799 _ _ hg1775))))), rfl, _, rfl, _, _, _, _, rfl, rfl, (SqT.of (S1868.sG _ _ (eG1871 _ _ (eG1830 _ _ (eG1799 _ _ hg1775))))), rfl, _, rfl, _, _, _, _, rfl, rfl, (SqT.of (S1868.sG _ _ (eG1871 _ _ (eG1830 _ _ (eG1799 _ _ hg1775))))), rfl, _, rfl, _, rfl, _, rfl, _, rfl, rfl, rfl, G1870, _, _, _, _, _, _, _, _, _, rfl, S1868.sG, (hide_nil h1879), (hide_nil h1880), cW_call hw (fun v1886 hw H1887 e1888 => ?_) (fun e he => he.elim)⟩
          have S1889 := S1868.same e1888
          have h1890 := (e1888 _ _ h1869)
          refine ⟨_, h1890, (app_lenM z1883), ?_⟩
          generalize g1891 : upd H1887 D1852 _ = H1892
          obtain ⟨x1893, h1894⟩ := gen_mut g1891
          have S1895 := S1889.mut1 x1893 (.head _) h1894
          have hw := cW_ok hw
          have h1896 := (x1893 _ _ (e1888 _ _ h1879) (ne_of_none h1838 n1853))
          have h1897 := (x1893 _ _ (e1888 _ _ h1880) (ne_of_none h1839 n1853))
          have h1898 := (x1893 _ _ (e1888 _ _ h1881) (ne_of_none h1840 n1853))
          have h1899 := (x1893 _ _ (e1888 _ _ h1882) (ne_of_none h1828 n1853))
          exact ⟨_, (acc1872 ++ [v1886]), eG1871, S1895, h1896, h1897, h1898, h1899, (snoc_map h1894), (same_mut (Same.trans eo1878 e1888) x1893 n1853), hw⟩
        intro H1900 hw
        obtain ⟨G1903, acc1905, eG1904, S1901, h1912, h1913, h1914, h1915, h1902, eo1911, hw⟩ := hw
        have hw := hK1851 _ (cW_mapA0 (rng_len _ _).symm hw)
        have fr1916 := S1827.free n1853
        obtain ⟨G1917, eG1918, hg1919, S1920⟩ := Sep.freeze (O' := [p1746, p1755, p1714, D1812]) S1901 (.head _) h1902 fr1916 ((all_cons ⟨(.tail _ (.head _)), (ne_of_none h1838 n1853)⟩ (all_cons ⟨(.tail _ (.tail _ (.head _))), (ne_of_none h1839 n1853)⟩ (all_cons ⟨(.tail _ (.tail _ (.tail _ (.head _)))), (ne_of_none h1840 n1853)⟩ (all_cons ⟨(.tail _ (.tail _ (.tail _ (.tail _ (.head _))))), (ne_of_none h1828 n1853)⟩ all_nil)))))
        refine ⟨_, h1915, (app_len (RpAll.mono eG1918 (RpAll.mono eG1904 d1833)) z1841), ?_⟩
        generalize g1921 : upd H1900 D1812 _ = H1922
        obtain ⟨x1923, h1924⟩ := gen_mut g1921
        have S1925 := S1920.mut1 x1923 (.tail _ (.tail _ (.tail _ (.head _)))) h1924
        have hw := cW_ok hw
        have h1926 := (x1923 _ _ h1912 (ne_of_none h1796 n1813))
        have h1927 := (x1923 _ _ h1913 (ne_of_none h1797 n1813))
        have h1928 := (x1923 _ _ h1914 (ne_of_none h1795 n1813))
        exact ⟨_, (acc1831 ++ [acc1905]), _, (Same.trans (Same.trans eG1830 eG1904) eG1918), (S1925.sub (all_cons (.tail _ (.tail _ (.tail _ (.head _)))) (all_cons (.head _) (all_cons (.tail _ (.head _)) (all_cons (.tail _ (.tail _ (.head _))) all_nil))))), h1926, h1927, h1928, h1924, (app_map (RpAll.mono eG1918 (RpAll.mono eG1904 d1833)) (RpAll.one (rp_mk_ints hg1919))), (same_mut (Same.trans eo1837 eo1911) x1923 n1813), hw⟩
      intro H1929 hw
      obtain ⟨G1932, acc1934, vs1935, eG1933, S1930, h1941, h1942, h1943, h1931, d1936, eo1940, hw⟩ := hw
      have hw := hK1811 _ (cW_mapA0 (rng_len _ _).symm hw)
      have fr1944 := S1794.free n1813
      refine ⟨_, rfl, _, _, _, _, rfl, rfl, (SqT.of (S1930.sG _ _ (eG1933 _ _ (eG1799 _ _ (eG1774 _ _ h1735))))), rfl, _, rfl, _, _, _, _, rfl, rfl, (SqT.of (S1930.sG _ _ (eG1933 _ _ (eG1799 _ _ (eG1774 _ _ h1735))))), rfl, _, rfl, _, _, _, _, rfl, rfl, (SqT.of (S1930.sG _ _ (eG1933 _ _ (eG1799 _ _ (eG1774 _ _ h1735))))), rfl, _, rfl, _, rfl, rfl, rfl, G1932, _, _, _, _, _, _, _, rfl, S1930.sG, (hide_nil (S1930.sG _ _ (eG1933 _ _ (eG1799 _ _ (eG1774 _ _ h1743))))), (hide_nil (S1930.sG _ _ (eG1933 _ _ (eG1799 _ _ (eG1774 _ _ h1745))))), cW_call hw (fun v1945 hw H1946 a1948 vs1949 L1950 G1951 n1952 nb1953 nd1954 e1947 eG1955 sG1956 hn1957 ga1958 gL1959 h1960 w1961 => ?_) (fun e he => (hE e he).elim)⟩
      have fr1962 := S1930.free n1952
      have S1963 : Sep _ _ _ _ H1946 (a1948 :: (L1950 ++ (D1812 :: (p1746 :: (p1755 :: (p1714 :: [])))))) := Sep.steptree S1930 e1947 eG1955 sG1956 hn1957 (a1948 :: L1950) (all_cons ⟨n1952, ga1958, some_ne h1960⟩ (fun b hb => ⟨nb1953 b hb, gL1959 b hb, OwAll.there w1961 b hb⟩))
      refine ⟨_, rfl, _, _, _, _, _, rfl, (.ty _), (.base (.lst h1960)), rfl, _, rfl, ?_⟩
      refine iteF ?_
      have h1964 := (e1947 _ _ h1931)
      refine ⟨_, rfl, _, rfl, _, _, (rp_mk_list h1960 (OwAll.rpA w1961 (encO_L encO_I) S1963.sG)), (rp_mk_list h1964 (RpAll.mono S1963.sG (RpAll.mono eG1955 d1936))), _, rfl, ?_⟩
      refine iteN (fun c1965 => ?_) (fun c1965 => ?_)
      · have hw := cW_neg c1965 hw
        refine iteT ?_
        have hw := cW_ok hw
        have hw := hK1802 (.rt _) hw
        have hw := hK1785 (.rt _) hw
        have hw := cW_ok hw
        exact eq_bl (k _) (hK0 _ hw).symm
      · have hw := cW_pos c1965 hw
        have h1966 := (e1947 _ _ h1941)
        have h1967 := (e1947 _ _ h1942)
        refine ⟨_, rfl, _, rfl, _, _, (rp_mk3 (S1963.sG _ _ (eG1955 _ _ (eG1933 _ _ (eG1799 _ _ (eG1774 _ _ h1735))))) (rp_mk_ints (S1963.sG _ _ (eG1955 _ _ (eG1933 _ _ (eG1799 _ _ (eG1774 _ _ h1743)))))) (rp_mk_ints (S1963.sG _ _ (eG1955 _ _ (eG1933 _ _ (eG1799 _ _ (eG1774 _ _ h1745)))))) (.int _)), (rp_mk3 (S1963.sG _ _ (eG1955 _ _ (eG1933 _ _ (eG1799 _ _ hg1775)))) (rp_mk_ints h1966) (rp_mk_ints h1967) (.int _)), _, rfl, ?_⟩
        refine iteN (fun c1968 => ?_) (fun c1968 => ?_)
        · have hw := cW_neg c1968 hw
          have hw := cW_ok hw
          have hw := hK1802 (.rt _) hw
          have hw := hK1785 (.rt _) hw
          have hw := cW_ok hw
          exact eq_bl (k _) (hK0 _ hw).symm
        · have hw := cW_pos c1968 hw
          obtain ⟨g1969, hw⟩ := cW_grd hw
          obtain ⟨v1970, L1971, a1972, w1973, hs1974, up1975⟩ := OwAll.partM (k := 0) w1961 g1969
          obtain ⟨b1976, rfl, rfl, h1977⟩ := Ow.toInts w1973
          obtain ⟨g1978, hw⟩ := cW_grd hw
          refine ⟨_, rfl, _, rfl, _, _, _, _, rfl, rfl, (SqL.of h1960), a1972, _, _, _, _, rfl, rfl, h1977, (ixN_map g1978), ?_⟩
          generalize g1979 : upd H1946 b1976 _ = H1980
          obtain ⟨x1981, h1982⟩ := gen_mut g1979
          have h1983 : H1980 b1976 = some (.lst ((setL ((itD (v1945) (0))) (0) ((-1)) : (List Int)).map V.int)) := set_map h1982
          have S1984 := S1963.mut1 x1981 ((((fun b hb => (.tail _ (List.mem_append_left _ hb))) : ∀ b ∈ L1950, b ∈ (a1948 :: (L1950 ++ (D1812 :: (p1746 :: (p1755 :: (p1714 :: []))))))) : ∀ b ∈ L1950, b ∈ (a1948 :: (L1950 ++ (D1812 :: (p1746 :: (p1755 :: (p1714 :: []))))))) _ (hs1974 _ List.mem_cons_self)) h1983
          have w1985 : OwAll G1951 H1980 L1950 (vs1949) ((setL (v1945) (0) (setL ((itD (v1945) (0))) (0) ((-1))) : (List (List Int))).map (oL oI)) := upd_tree up1975 x1981 List.mem_cons_self (Ow.ints h1983)
          have hw := cW_bnd hw
          obtain ⟨g1987, hw⟩ := cW_grd hw
          obtain ⟨v1988, L1989, a1990, w1991, hs1992, up1993⟩ := OwAll.partM (k := (-1)) w1985 g1987
          have h1994 := (x1981 _ _ h1960 (((nd1954 : ∀ b ∈ L1950, b ≠ a1948) _ (hs1974 _ List.mem_cons_self))).symm)
          obtain ⟨b1995, rfl, rfl, h1996⟩ := Ow.toInts w1991
          obtain ⟨g1997, hw⟩ := cW_grd hw
          refine ⟨_, rfl, _, rfl, _, _, _, _, rfl, rfl, (SqL.of h1994), a1990, (.inl ⟨rfl, _, SqL.of h1996⟩), _, _, _, rfl, rfl, h1996, (app_lenM g1997), ?_⟩
          generalize g1998 : upd H1980 b1995 _ = H1999
          obtain ⟨x2000, h2001⟩ := gen_mut g1998
          have h2002 : H1999 b1995 = some (.lst ((((itD (setL (v1945) (0) (setL ((itD (v1945) (0))) (0) ((-1)))) ((-1)))) ++ [3] : (List Int)).map V.int)) := snoc_map h2001
          have S2003 := S1984.mut1 x2000 ((((fun b hb => (.tail _ (List.mem_append_left _ hb))) : ∀ b ∈ L1950, b ∈ (a1948 :: (L1950 ++ (D1812 :: (p1746 :: (p1755 :: (p1714 :: []))))))) : ∀ b ∈ L1950, b ∈ (a1948 :: (L1950 ++ (D1812 :: (p1746 :: (p1755 :: (p1714 :: []))))))) _ (hs1992 _ List.mem_cons_self)) h2002
          have w2004 : OwAll G1951 H1999 L1950 (vs1949) ((setL (setL (v1945) (0) (setL ((itD (v1945) (0))) (0) ((-1)))) ((-1)) (((itD (setL (v1945) (0) (setL ((itD (v1945) (0))) (0) ((-1)))) ((-1)))) ++ [3]) : (List (List Int))).map (oL oI)) := upd_tree up1993 x2000 List.mem_cons_self (Ow.ints h2002)
          have hw := cW_bnd hw
          have h2006 := (x2000 _ _ (x1981 _ _ h1964 ((((new_ne2 nb1953 (S1930.ow _ (.head _)).2.1) : ∀ b ∈ L1950, b ≠ D1812) _ (hs1974 _ List.mem_cons_self))).symm) ((((new_ne2 nb1953 (S1930.ow _ (.head _)).2.1) : ∀ b ∈ L1950, b ≠ D1812) _ (hs1992 _ List.mem_cons_self))).symm)
          obtain ⟨K2008, hK2009, hw⟩ := cW_push hw
          refine ⟨_, rfl, _, rfl, ⟨_, (SqL.of h2006)⟩, fun D2010 n2011 => lc_list (K := K) (a := D1812) (xs := vs1935) (fun i H' => ∃ (G' : Hp) (acc2013 : (List (List Int))) (vs2014 : List V) (L2012 : List Addr), Same G1951 G' ∧ Sep [] H H G' H' (D2010 :: (L2012 ++ (p1746 :: (p1755 :: (a1948 :: (p1714 :: (D1812 :: (L1950 ++ [])))))))) ∧ H' p1746 = some (.lst ((v1724.1 : (List Int)).map V.int)) ∧ H' p1755 = some (.lst ((v1724.2.1 : (List Int)).map V.int)) ∧ H' a1948 = some (.lst (vs1949)) ∧ H' p1714 = some (.lst ((v1711 : (List Int)).map V.int)) ∧ H' D1812 = some (.lst (vs1935)) ∧ H' D2010 = some (.lst vs2014) ∧ OwAll G' H' L1950 (vs1949) ((setL (setL (v1945) (0) (setL ((itD (v1945) (0))) (0) ((-1)))) ((-1)) (((itD (setL (v1945) (0) (setL ((itD (v1945) (0))) (0) ((-1)))) ((-1)))) ++ [3]) : (List (List Int))).map (oL oI)) ∧ OwAll G' H' L2012 vs2014 ((acc2013 : (List (List Int))).map (oL oI)) ∧ (∀ b ∈ L2012, H1999 b = none) ∧ (∀ b ∈ L2012, b ≠ D2010) ∧ Same H1999 H' ∧ cW (mapA (List.drop i (acc1934)) acc2013 (fun x => noEr (F_law_c4  x))) K2008 EE) ?_ ?_ ?_ ?_⟩
          · generalize g2015 : upd H1999 D2010 _ = H2016
            obtain ⟨e2017, h2018⟩ := gen_new n2011 g2015
            have fr2019 := S2003.free n2011
            have S2020 := S2003.new n2011 e2017 h2018 fr2019
            have h2021 := (e2017 _ _ (x2000 _ _ (x1981 _ _ h1966 ((((new_ne2 nb1953 (S1930.ow _ (.tail _ (.head _))).2.1) : ∀ b ∈ L1950, b ≠ p1746) _ (hs1974 _ List.mem_cons_self))).symm) ((((new_ne2 nb1953 (S1930.ow _ (.tail _ (.head _))).2.1) : ∀ b ∈ L1950, b ≠ p1746) _ (hs1992 _ List.mem_cons_self))).symm))
            have h2022 := (e2017 _ _ (x2000 _ _ (x1981 _ _ h1967 ((((new_ne2 nb1953 (S1930.ow _ (.tail _ (.tail _ (.head _)))).2.1) : ∀ b ∈ L1950, b ≠ p1755) _ (hs1974 _ List.mem_cons_self))).symm) ((((new_ne2 nb1953 (S1930.ow _ (.tail _ (.tail _ (.head _)))).2.1) : ∀ b ∈ L1950, b ≠ p1755) _ (hs1992 _ List.mem_cons_self))).symm))
            have h2023 := (e2017 _ _ (x2000 _ _ h1994 (((nd1954 : ∀ b ∈ L1950, b ≠ a1948) _ (hs1992 _ List.mem_cons_self))).symm))
            have h2024 := (e2017 _ _ (x2000 _ _ (x1981 _ _ (e1947 _ _ h1943) ((((new_ne2 nb1953 (S1930.ow _ (.tail _ (.tail _ (.tail _ (.head _))))).2.1) : ∀ b ∈ L1950, b ≠ p1714) _ (hs1974 _ List.mem_cons_self))).symm) ((((new_ne2 nb1953 (S1930.ow _ (.tail _ (.tail _ (.tail _ (.head _))))).2.1) : ∀ b ∈ L1950, b ≠ p1714) _ (hs1992 _ List.mem_cons_self))).symm))
            have h2025 := (e2017 _ _ h2006)
            have w2026 : OwAll G1951 H2016 L1950 (vs1949) ((setL (setL (v1945) (0) (setL ((itD (v1945) (0))) (0) ((-1)))) ((-1)) (((itD (setL (v1945) (0) (setL ((itD (v1945) (0))) (0) ((-1)))) ((-1)))) ++ [3]) : (List (List Int))).map (oL oI)) := (OwAll.mono (Same.refl _) (keeps_same e2017) w2004)
            exact ⟨_, [], [], [], Same.refl _, (S2020.sub (all_cons (.head _) (all_app (L := []) all_nil (all_cons (.tail _ (.tail _ (List.mem_append_right _ (.tail _ (.head _))))) (all_cons (.tail _ (.tail _ (List.mem_append_right _ (.tail _ (.tail _ (.head _)))))) (all_cons (.tail _ (.head _)) (all_cons (.tail _ (.tail _ (List.mem_append_right _ (.tail _ (.tail _ (.tail _ (.head _))))))) (all_cons (.tail _ (.tail _ (List.mem_append_right _ (.head _)))) (all_app ((fun b hb => (.tail _ (.tail _ (List.mem_append_left _ hb)))) : ∀ b ∈ L1950, b ∈ (D2010 :: (a1948 :: (L1950 ++ (D1812 :: (p1746 :: (p1755 :: (p1714 :: [])))))))) all_nil))))))))), h2021, h2022, h2023, h2024, h2025, h2018, w2026, OwAll.nil, all_nil, all_nil, e2017, hw⟩
          · intro i H2027 _ hw
            obtain ⟨G2030, acc2032, vs2033, L2035, eG2031, S2028, h2039, h2040, h2041, h2042, h2043, h2029, w2044, d2034, nb2036, nd2037, eo2038, hw⟩ := hw
            exact (SqL.of h2043)
          · intro i x H2045 hj hw
            obtain ⟨G2048, acc2050, vs2051, L2053, eG2049, S2046, h2057, h2058, h2059, h2060, h2061, h2047, w2062, d2052, nb2054, nd2055, eo2056, hw⟩ := hw
            obtain ⟨x2063, hx, r2064⟩ := RpAll.get (RpAll.mono eG2049 (RpAll.mono eG1955 d1936)) hj
            obtain ⟨a2065, rfl, h2066⟩ := rp_ints r2064
            obtain ⟨z2067, hw⟩ := cW_mapA hx hw
            have hw := cW_noEr hw
            have hw : cW (F_law_c4  (x2063)) _ (fun _ => False) := hw
            unfold F_law_c4 at hw
            refine ⟨rfl, ?_⟩
            refine tyes_go ?_
            refine ⟨_, rfl, _, _, rfl, (SqL.of (S2046.sG _ _ h2066)), fun p2069 n2070 => ?_⟩
            generalize g2071 : upd H2045 p2069 _ = H2072
            obtain ⟨e2073, h2074⟩ := gen_new n2070 g2071
            have h2075 : H2072 p2069 = some (.lst ((x2063 : (List Int)).map V.int)) := h2074
            have fr2076 := S2046.free n2070
            have S2077 := S2046.new n2070 e2073 h2075 fr2076
            have w2078 : OwAll G2048 H2072 L2053 (vs2051) ((acc2050 : (List (List Int))).map (oL oI)) := (OwAll.mono (Same.refl _) (keeps_same e2073) d2052)
            have h2079 := (e2073 _ _ h2047)
            refine ⟨_, h2079, (app_len (OwAll.rpA w2078 (encO_L encO_I) S2077.sG) z2067), ?_⟩
            generalize g2080 : upd H2072 D2010 _ = H2081
            obtain ⟨x2082, h2083⟩ := gen_mut g2080
            have S2084 := S2077.mut1 x2082 (.tail _ (.head _)) h2083
            have hw := cW_ok hw
            have h2085 := (x2082 _ _ (e2073 _ _ h2057) (ne_of_none (x2000 _ _ (x1981 _ _ h1966 ((((new_ne2 nb1953 (S1930.ow _ (.tail _ (.head _))).2.1) : ∀ b ∈ L1950, b ≠ p1746) _ (hs1974 _ List.mem_cons_self))).symm) ((((new_ne2 nb1953 (S1930.ow _ (.tail _ (.head _))).2.1) : ∀ b ∈ L1950, b ≠ p1746) _ (hs1992 _ List.mem_cons_self))).symm) n2011))
            have h2086 := (x2082 _ _ (e2073 _ _ h2058) (ne_of_none (x2000 _ _ (x1981 _ _ h1967 ((((new_ne2 nb1953 (S1930.ow _ (.tail _ (.tail _ (.head _)))).2.1) : ∀ b ∈ L1950, b ≠ p1755) _ (hs1974 _ List.mem_cons_self))).symm) ((((new_ne2 nb1953 (S1930.ow _ (.tail _ (.tail _ (.head _)))).2.1) : ∀ b ∈ L1950, b ≠ p1755) _ (hs1992 _ List.mem_cons_self))).symm) n2011))
            have h2087 := (x2082 _ _ (e2073 _ _ h2059) (ne_of_none (x2000 _ _ h1994 (((nd1954 : ∀ b ∈ L1950, b ≠ a1948) _ (hs1992 _ List.mem_cons_self))).symm) n2011))
            have h2088 := (x2082 _ _ (e2073 _ _ h2060) (ne_of_none (x2000 _ _ (x1981 _ _ (e1947 _ _ h1943) ((((new_ne2 nb1953 (S1930.ow _ (.tail _ (.tail _ (.tail _ (.head _))))).2.1) : ∀ b ∈ L1950, b ≠ p1714) _ (hs1974 _ List.mem_cons_self))).symm) ((((new_ne2 nb1953 (S1930.ow _ (.tail _ (.tail _ (.tail _ (.head _))))).2.1) : ∀ b ∈ L1950, b ≠ p1714) _ (hs1992 _ List.mem_cons_self))).symm) n2011))
            have h2089 := (x2082 _ _ (e2073 _ _ h2061) (ne_of_none h2006 n2011))
            have w2090 : OwAll G2048 H2081 L1950 (vs1949) ((setL (setL (v1945) (0) (setL ((itD (v1945) (0))) (0) ((-1)))) ((-1)) (((itD (setL (v1945) (0) (setL ((itD (v1945) (0))) (0) ((-1)))) ((-1)))) ++ [3]) : (List (List Int))).map (oL oI)) := (OwAll.mono (Same.refl _) (keeps_mut x2082 ((there_ne (fun b_ hb_ => (S2003.ow b_ (((fun b hb => (.tail _ (List.mem_append_left _ hb))) : ∀ b ∈ L1950, b ∈ (a1948 :: (L1950 ++ (D1812 :: (p1746 :: (p1755 :: (p1714 :: []))))))) b_ hb_)).2.1) n2011) : ∀ b ∈ L1950, b ≠ D2010)) (OwAll.mono (Same.refl _) (keeps_same e2073) w2062))
            exact ⟨_, (acc2050 ++ [x2063]), _, (L2053 ++ (p2069 :: ([] : List Addr))), eG2049, (S2084.sub (all_cons (.tail _ (.head _)) (all_app (all_app ((fun b hb => (.tail _ (.tail _ (List.mem_append_left _ hb)))) : ∀ b ∈ L2053, b ∈ (p2069 :: (D2010 :: (L2053 ++ (p1746 :: (p1755 :: (a1948 :: (p1714 :: (D1812 :: (L1950 ++ [])))))))))) (all_cons (.head _) all_nil)) (all_cons (.tail _ (.tail _ (List.mem_append_right _ (.head _)))) (all_cons (.tail _ (.tail _ (List.mem_append_right _ (.tail _ (.head _))))) (all_cons (.tail _ (.tail _ (List.mem_append_right _ (.tail _ (.tail _ (.head _)))))) (all_cons (.tail _ (.tail _ (List.mem_append_right _ (.tail _ (.tail _ (.tail _ (.head _))))))) (all_cons (.tail _ (.tail _ (List.mem_append_right _ (.tail _ (.tail _ (.tail _ (.tail _ (.head _)))))))) (all_app ((fun b hb => (.tail _ (.tail _ (List.mem_append_right _ (.tail _ (.tail _ (.tail _ (.tail _ (.tail _ (List.mem_append_left _ hb)))))))))) : ∀ b ∈ L1950, b ∈ (p2069 :: (D2010 :: (L2053 ++ (p1746 :: (p1755 :: (a1948 :: (p1714 :: (D1812 :: (L1950 ++ [])))))))))) all_nil))))))))), h2085, h2086, h2087, h2088, h2089, h2083, w2090, (OwAll.mono (Same.refl _) (keeps_mut x2082 ((all_app nd2055 (all_cons (ne_of_none h2047 n2070).symm all_nil)) : ∀ b ∈ (L2053 ++ (p2069 :: ([] : List Addr))), b ≠ D2010)) (OwAll.snocM w2078 (Ow.ints h2075) ((fun b hb => (nm_cons ((there_ne (fun b_ hb_ => (S2046.ow b_ (((fun b hb => (.tail _ (List.mem_append_left _ hb))) : ∀ b ∈ L2053, b ∈ (D2010 :: (L2053 ++ (p1746 :: (p1755 :: (a1948 :: (p1714 :: (D1812 :: (L1950 ++ []))))))))) b_ hb_)).2.1) n2070) b hb) nm_nil)) : ∀ b ∈ L2053, b ∉ (p2069 :: ([] : List Addr))))), ((all_app nb2054 (all_cons (none_of_same eo2056 n2070) all_nil)) : ∀ b ∈ (L2053 ++ (p2069 :: ([] : List Addr))), H1999 b = none), ((all_app nd2055 (all_cons (ne_of_none h2047 n2070).symm all_nil)) : ∀ b ∈ (L2053 ++ (p2069 :: ([] : List Addr))), b ≠ D2010), (same_mut (Same.trans eo2056 e2073) x2082 n2011), hw⟩
          intro H2091 hw
          obtain ⟨G2094, acc2096, vs2097, L2099, eG2095, S2092, h2103, h2104, h2105, h2106, h2107, h2093, w2108, d2098, nb2100, nd2101, eo2102, hw⟩ := hw
          have hw := hK2009 _ (cW_mapA0 (by rw [(RpAll.mono eG2095 (RpAll.mono eG1955 d1936)).len, List.length_map]) hw)
          have fr2109 := S2003.free n2011
          obtain ⟨g2110, hw⟩ := cW_grd hw
          obtain ⟨v2111, L2112, a2113, w2114, hs2115, up2116⟩ := OwAll.partM (k := 0) d2098 g2110
          obtain ⟨b2117, rfl, rfl, h2118⟩ := Ow.toInts w2114
          obtain ⟨g2119, hw⟩ := cW_grd hw
          refine ⟨_, rfl, _, rfl, _, _, _, _, rfl, rfl, (SqL.of h2093), a2113, _, _, _, _, rfl, rfl, h2118, (ixN_map g2119), ?_⟩
          generalize g2120 : upd H2091 b2117 _ = H2121
          obtain ⟨x2122, h2123⟩ := gen_mut g2120
          have h2124 : H2121 b2117 = some (.lst ((setL ((itD (acc2096) (0))) (0) ((-1)) : (List Int)).map V.int)) := set_map h2123
          have S2125 := S2092.mut1 x2122 ((((fun b hb => (.tail _ (List.mem_append_left _ hb))) : ∀ b ∈ L2099, b ∈ (D2010 :: (L2099 ++ (p1746 :: (p1755 :: (a1948 :: (p1714 :: (D1812 :: (L1950 ++ []))))))))) : ∀ b ∈ L2099, b ∈ (D2010 :: (L2099 ++ (p1746 :: (p1755 :: (a1948 :: (p1714 :: (D1812 :: (L1950 ++ []))))))))) _ (hs2115 _ List.mem_cons_self)) h2124
          have w2126 : OwAll G2094 H2121 L2099 (vs2097) ((setL (acc2096) (0) (setL ((itD (acc2096) (0))) (0) ((-1))) : (List (List Int))).map (oL oI)) := upd_tree up2116 x2122 List.mem_cons_self (Ow.ints h2124)
          have hw := cW_bnd hw
          obtain ⟨g2128, hw⟩ := cW_grd hw
          obtain ⟨v2129, L2130, a2131, w2132, hs2133, up2134⟩ := OwAll.partM (k := (-1)) w2126 g2128
          have h2135 := (x2122 _ _ h2093 (((nd2101 : ∀ b ∈ L2099, b ≠ D2010) _ (hs2115 _ List.mem_cons_self))).symm)
          obtain ⟨b2136, rfl, rfl, h2137⟩ := Ow.toInts w2132
          obtain ⟨g2138, hw⟩ := cW_grd hw
          refine ⟨_, rfl, _, rfl, _, _, _, _, rfl, rfl, (SqL.of h2135), a2131, (.inl ⟨rfl, _, SqL.of h2137⟩), _, _, _, rfl, rfl, h2137, (app_lenM g2138), ?_⟩
          generalize g2139 : upd H2121 b2136 _ = H2140
          obtain ⟨x2141, h2142⟩ := gen_mut g2139
          have h2143 : H2140 b2136 = some (.lst ((((itD (setL (acc2096) (0) (setL ((itD (acc2096) (0))) (0) ((-1)))) ((-1)))) ++ [3] : (List Int)).map V.int)) := snoc_map h2142
          have S2144 := S2125.mut1 x2141 ((((fun b hb => (.tail _ (List.mem_append_left _ hb))) : ∀ b ∈ L2099, b ∈ (D2010 :: (L2099 ++ (p1746 :: (p1755 :: (a1948 :: (p1714 :: (D1812 :: (L1950 ++ []))))))))) : ∀ b ∈ L2099, b ∈ (D2010 :: (L2099 ++ (p1746 :: (p1755 :: (a1948 :: (p1714 :: (D1812 :: (L1950 ++ []))))))))) _ (hs2133 _ List.mem_cons_self)) h2143
          have w2145 : OwAll G2094 H2140 L2099 (vs2097) ((setL (setL (acc2096) (0) (setL ((itD (acc2096) (0))) (0) ((-1)))) ((-1)) (((itD (setL (acc2096) (0) (setL ((itD (acc2096) (0))) (0) ((-1)))) ((-1)))) ++ [3]) : (List (List Int))).map (oL oI)) := upd_tree up2134 x2141 List.mem_cons_self (Ow.ints h2143)
          have hw := cW_bnd hw
          have h2147 := (x2141 _ _ (x2122 _ _ h2105 ((((new_ne2 nb2100 (S2003.ow _ (.head _)).2.1) : ∀ b ∈ L2099, b ≠ a1948) _ (hs2115 _ List.mem_cons_self))).symm) ((((new_ne2 nb2100 (S2003.ow _ (.head _)).2.1) : ∀ b ∈ L2099, b ≠ a1948) _ (hs2133 _ List.mem_cons_self))).symm)
          have w2148 : OwAll G2094 H2140 L1950 (vs1949) ((setL (setL (v1945) (0) (setL ((itD (v1945) (0))) (0) ((-1)))) ((-1)) (((itD (setL (v1945) (0) (setL ((itD (v1945) (0))) (0) ((-1)))) ((-1)))) ++ [3]) : (List (List Int))).map (oL oI)) := (OwAll.mono (Same.refl _) (keeps_mut x2141 ((fun b hb z => (fun b hb => ((nl_symm (new_nl nb2100 (fun b_ hb_ => (S2003.ow b_ (((fun b hb => (.tail _ (List.mem_append_left _ hb))) : ∀ b ∈ L1950, b ∈ (a1948 :: (L1950 ++ (D1812 :: (p1746 :: (p1755 :: (p1714 :: []))))))) b_ hb_)).2.1))) b hb)) b hb (z ▸ (hs2133 _ List.mem_cons_self))) : ∀ b ∈ L1950, b ≠ b2136)) (OwAll.mono (Same.refl _) (keeps_mut x2122 ((fun b hb z => (fun b hb => ((nl_symm (new_nl nb2100 (fun b_ hb_ => (S2003.ow b_ (((fun b hb => (.tail _ (List.mem_append_left _ hb))) : ∀ b ∈ L1950, b ∈ (a1948 :: (L1950 ++ (D1812 :: (p1746 :: (p1755 :: (p1714 :: []))))))) b_ hb_)).2.1))) b hb)) b hb (z ▸ (hs2115 _ List.mem_cons_self))) : ∀ b ∈ L1950, b ≠ b2117)) w2108))
          have h2149 := (x2141 _ _ h2135 (((nd2101 : ∀ b ∈ L2099, b ≠ D2010) _ (hs2133 _ List.mem_cons_self))).symm)
          refine ⟨_, rfl, _, rfl, _, _, (rp_mk_list h2147 (OwAll.rpA w2148 (encO_L encO_I) S2144.sG)), (rp_mk_list h2149 (OwAll.rpA w2145 (encO_L encO_I) S2144.sG)), _, rfl, ?_⟩
          refine iteN (fun c2150 => ?_) (fun c2150 => ?_)
          · have hw := cW_neg c2150 hw
            have hw := cW_ok hw
            have hw := hK1802 (.rt _) hw
            have hw := hK1785 (.rt _) hw
            have hw := cW_ok hw
            exact eq_bl (k _) (hK0 _ hw).symm
          · have hw := cW_pos c2150 hw
            have h2151 := (x2141 _ _ (x2122 _ _ h2103 ((((new_ne2 nb2100 (S2003.ow _ (.tail _ (List.mem_append_right _ (.tail _ (.head _))))).2.1) : ∀ b ∈ L2099, b ≠ p1746) _ (hs2115 _ List.mem_cons_self))).symm) ((((new_ne2 nb2100 (S2003.ow _ (.tail _ (List.mem_append_right _ (.tail _ (.head _))))).2.1) : ∀ b ∈ L2099, b ≠ p1746) _ (hs2133 _ List.mem_cons_self))).symm)
            have h2152 := (x2141 _ _ (x2122 _ _ h2104 ((((new_ne2 nb2100 (S2003.ow _ (.tail _ (List.mem_append_right _ (.tail _ (.tail _ (.head _)))))).2.1) : ∀ b ∈ L2099, b ≠ p1755) _ (hs2115 _ List.mem_cons_self))).symm) ((((new_ne2 nb2100 (S2003.ow _ (.tail _ (List.mem_append_right _ (.tail _ (.tail _ (.head _)))))).2.1) : ∀ b ∈ L2099, b ≠ p1755) _ (hs2133 _ List.mem_cons_self))).symm)
            refine ⟨_, rfl, _, rfl, _, _, (rp_mk3 (S2144.sG _ _ (eG2095 _ _ (eG1955 _ _ (eG1933 _ _ (eG1799 _ _ (eG1774 _ _ h1735)))))) (rp_mk_ints (S2144.sG _ _ (eG2095 _ _ (eG1955 _ _ (eG1933 _ _ (eG1799 _ _ (eG1774 _ _ h1743))))))) (rp_mk_ints (S2144.sG _ _ (eG2095 _ _ (eG1955 _ _ (eG1933 _ _ (eG1799 _ _ (eG1774 _ _ h1745))))))) (.int _)), (rp_mk3 (S2144.sG _ _ (eG2095 _ _ (eG1955 _ _ (eG1933 _ _ (eG1799 _ _ hg1775))))) (rp_mk_ints h2151) (rp_mk_ints h2152) (.int _)), _, rfl, ?_⟩
            refine iteN (fun c2153 => ?_) (fun c2153 => ?_)
            · have hw := cW_neg c2153 hw
              refine iteT ?_
              have hw := cW_ok hw
              have hw := hK1802 (.rt _) hw
              have hw := hK1785 (.rt _) hw
              have hw := cW_ok hw
              exact eq_bl (k _) (hK0 _ hw).symm
            · have hw := cW_pos c2153 hw
              refine ⟨_, rfl, _, _, _, _, rfl, rfl, (SqT.of (S2144.sG _ _ (eG2095 _ _ (eG1955 _ _ (eG1933 _ _ (eG1799 _ _ (eG1774 _ _ h1735))))))), rfl, _, rfl, _, _, _, _, rfl, rfl, (SqT.of (S2144.sG _ _ (eG2095 _ _ (eG1955 _ _ (eG1933 _ _ (eG1799 _ _ (eG1774 _ _ h1735))))))), rfl, _, rfl, _, _, _, _, rfl, rfl, (SqT.of (S2144.sG _ _ (eG2095 _ _ (eG1955 _ _ (eG1933 _ _ (eG1799 _ _ (eG1774 _ _ h1735))))))), rfl, _, rfl, _, rfl, rfl, rfl, G2094, _, _, _, _, _, _, _, rfl, S2144.sG, (hide_nil (S2144.sG _ _ (eG2095 _ _ (eG1955 _ _ (eG1933 _ _ (eG1799 _ _ (eG1774 _ _ h1743))))))), (hide_nil (S2144.sG _ _ (eG2095 _ _ (eG1955 _ _ (eG1933 _ _ (eG1799 _ _ (eG1774 _ _ h1745))))))), cW_call hw (fun v2154 hw H2155 a2157 vs2158 L2159 G2160 n2161 nb2162 nd2163 e2156 eG2164 sG2165 hn2166 ga2167 gL2168 h2169 w2170 => ?_) (fun e he => (hE e he).elim)⟩
              have fr2171 := S2144.free n2161
              have S2172 : Sep _ _ _ _ H2155 (a2157 :: (L2159 ++ (D2010 :: (L2099 ++ (p1746 :: (p1755 :: (a1948 :: (p1714 :: (D1812 :: (L1950 ++ [])))))))))) := Sep.steptree S2144 e2156 eG2164 sG2165 hn2166 (a2157 :: L2159) (all_cons ⟨n2161, ga2167, some_ne h2169⟩ (fun b hb => ⟨nb2162 b hb, gL2168 b hb, OwAll.there w2170 b hb⟩))
              have h2173 := (e2156 _ _ (x2141 _ _ (x2122 _ _ h2107 ((((new_ne2 nb2100 (S2003.ow _ (.tail _ (List.mem_append_right _ (.head _)))).2.1) : ∀ b ∈ L2099, b ≠ D1812) _ (hs2115 _ List.mem_cons_self))).symm) ((((new_ne2 nb2100 (S2003.ow _ (.tail _ (List.mem_append_right _ (.head _)))).2.1) : ∀ b ∈ L2099, b ≠ D1812) _ (hs2133 _ List.mem_cons_self))).symm))
              refine ⟨_, rfl, _, _, (rp_mk_list h2169 (OwAll.rpA w2170 (encO_L encO_I) S2172.sG)), (rp_mk_list h2173 (RpAll.mono S2172.sG (RpAll.mono eG2164 (RpAll.mono eG2095 (RpAll.mono eG1955 d1936))))), _, rfl, ?_⟩
              refine iteN (fun c2174 => ?_) (fun c2174 => ?_)
              · have hw := cW_neg c2174 hw
                have hw := cW_ok hw
                have hw := hK1802 (.rt _) hw
                have hw := hK1785 (.rt _) hw
                have hw := cW_ok hw
                exact eq_bl (k _) (hK0 _ hw).symm
              · have hw := cW_pos c2174 hw
                have hw := cW_ok hw
                have hw := hK1802 _ hw
                have h2175 := (e2156 _ _ (x2141 _ _ (x2122 _ _ h2106 ((((new_ne2 nb2100 (S2003.ow _ (.tail _ (List.mem_append_right _ (.tail _ (.tail _ (.tail _ (.head _))))))).2.1) : ∀ b ∈ L2099, b ≠ p1714) _ (hs2115 _ List.mem_cons_self))).symm) ((((new_ne2 nb2100 (S2003.ow _ (.tail _ (List.mem_append_right _ (.tail _ (.tail _ (.tail _ (.head _))))))).2.1) : ∀ b ∈ L2099, b ≠ p1714) _ (hs2133 _ List.mem_cons_self))).symm))
                have h2176 := (e2156 _ _ h2151)
                have h2177 := (e2156 _ _ h2152)
                exact ⟨_, _, _, _, _, rfl, (Same.trans (Same.trans (Same.trans (Same.trans eG1799 eG1933) eG1955) eG2095) eG2164), (S2172.sub (all_cons (.tail _ (List.mem_append_right _ (.tail _ (List.mem_append_right _ (.tail _ (.tail _ (.tail _ (.head _)))))))) (all_cons (.tail _ (List.mem_append_right _ (.tail _ (List.mem_append_right _ (.head _))))) (all_cons (.tail _ (List.mem_append_right _ (.tail _ (List.mem_append_right _ (.tail _ (.head _)))))) all_nil)))), h2175, h2176, h2177, hw⟩
    · intro σ H2178 hw
      obtain ⟨u1786, u1787, u1788, u1789, G2183, rfl, eG2184, S2179, h2180, h2181, h2182, hw⟩ := hw
      have hw := cW_aftgo (hK1785 _ (cW_forR0 (rng_len _ _).symm hw))
      have hw : cW (F_law_r1 (v1711) (((1 * 2 ^ Int.toNat ((8 + (itD (v1711) (0))))) - 1)) (v1724) ) _ EE := hw
      unfold F_law_r1 at hw
      obtain ⟨g2185, hw⟩ := cW_grd hw
      obtain ⟨g2186, hw⟩ := cW_grd hw
      refine ⟨_, rfl, _, rfl, _, _, _, _, rfl, rfl, (SqL.of h2180), (atI_map g2185), _, _, rfl, rfl, _, rfl, _, rfl, _, _, _, _, rfl, rfl, (SqL.of h2180), (atI_map g2186), _, _, rfl, rfl, (by show 2 ≤ sizeLine; decide), fun p2187 n2188 => ?_⟩
      generalize g2189 : upd H2178 p2187 _ = H2190
      obtain ⟨e2191, h2192⟩ := gen_new n2188 g2189
      have h2193 : H2190 p2187 = some (.lst (([(8 + (itD (v1711) (1))), ((-1) - (itD (v1711) (1)))] : (List Int)).map V.int)) := h2192
      have fr2194 := S2179.free n2188
      have S2195 := S2179.new n2188 e2191 h2193 fr2194
      obtain ⟨g2196, hw⟩ := cW_grd hw
      have h2197 := (e2191 _ _ h2180)
      obtain ⟨g2198, hw⟩ := cW_grd hw
      refine ⟨_, rfl, _, _, _, _, rfl, rfl, (SqL.of h2197), (atI_map g2196), _, _, _, _, rfl, rfl, (SqL.of h2193), (atI_map g2198), _, rfl, rfl, rfl, G2183, _, _, _, _, rfl, S2195.sG, (Rp.hide_nil (rp_mk3 (S2195.sG _ _ (eG2184 _ _ (eG1774 _ _ h1735))) (rp_mk_ints (S2195.sG _ _ (eG2184 _ _ (eG1774 _ _ h1743)))) (rp_mk_ints (S2195.sG _ _ (eG2184 _ _ (eG1774 _ _ h1745)))) (.int _))), cW_call hw (fun v2199 hw H2200 e2201 => ?_) (fun e he => (hE e he).elim)⟩
      have S2202 := S2195.same e2201
      have hw := cW_ok hw
      exact eq_bl (k _) (hK0 _ hw).symm
end
def spL (K : PySem.W.Frag) : Sp := fun vs H Q _ => ∃ (a_script : Addr) (script : List Int), vs = [.ref a_script] ∧ SqL K H a_script (script.map V.int) ∧ script.length ≤ 63 ∧ ∀ H', Q (.bl true) H'
theorem all_mk {l : PySem.W.OpenLaw} {w : World} {K : PySem.W.Frag} {h : Heap} {mg : Str → Option Value} {fa : Addr} (X : K.In h) (G : h.Ns mainGlobals mg) (hfa : mg "law" = some (.ref fa))
    {f0 f1 f2 f3 f4 f5 f6 f7 f8 f9 f10 f11 f12 f13 f14 f15 f16 f17 f18 f19 XCodecError XOutOfRange : Addr} {od0 an0 od1 an1 od2 an2 od3 an3 od4 an4 od5 an5 od6 an6 od7 an7 od8 an8 od9 an9 od10 an10 od11 an11 od12 an12 od13 an13 od14 an14 od15 an15 od16 an16 od17 an17 od18 an18 od19 an19 : Option Addr} {sl0 sl1 sl2 sl3 sl4 sl5 sl6 sl7 sl8 sl9 sl10 sl11 sl12 sl13 sl14 sl15 sl16 sl17 sl18 sl19 : Array (Option Value)} {oc0 kV0 dc0 pm0 cd0 ct0 oc1 kV1 dc1 pm1 cd1 ct1 oc2 kV2 dc2 pm2 cd2 ct2 oc3 kV3 dc3 pm3 cd3 ct3 oc4 kV4 dc4 pm4 cd4 ct4 oc5 kV5 dc5 pm5 cd5 ct5 oc6 kV6 dc6 pm6 cd6 ct6 oc7 kV7 dc7 pm7 cd7 ct7 oc8 kV8 dc8 pm8 cd8 ct8 oc9 kV9 dc9 pm9 cd9 ct9 oc10 kV10 dc10 pm10 cd10 ct10 oc11 kV11 dc11 pm11 cd11 ct11 oc12 kV12 dc12 pm12 cd12 ct12 oc13 kV13 dc13 pm13 cd13 ct13 oc14 kV14 dc14 pm14 cd14 ct14 oc15 kV15 dc15 pm15 cd15 ct15 oc16 kV16 dc16 pm16 cd16 ct16 oc17 kV17 dc17 pm17 cd17 ct17 oc18 kV18 dc18 pm18 cd18 ct18 oc19 kV19 dc19 pm19 cd19 ct19 : Value} {TG_MODES : Addr} {td8 : Option Addr} {tn8 : Nat} {tsl8 : Array (Option Value)}
    (vCodecError : PySem.W.nsIn K mainGlobals "CodecError" = some (some (.ref XCodecError))) (vOutOfRange : PySem.W.nsIn K mainGlobals "OutOfRange" = some (some (.ref XOutOfRange))) (a0 : PySem.W.nsIn K mainGlobals "_law_draws" = some (some (.ref f0))) (l0 : K.lookup f0 = some ⟨oc0, od0, .func (PySem.W.fnOf "_law_draws" "_law_draws" (defArgs s__law_draws) (defBody s__law_draws) (defScope s__law_draws) .none kV0 dc0 pm0 an0 cd0 ct0), sl0⟩) (c0 : PySem.W.codeIn K cd0 "_law_draws" = true) (k0 : PySem.W.keepIn K (.ref f0) = true) (a1 : PySem.W.nsIn K mainGlobals "_law_around" = some (some (.ref f1))) (l1 : K.lookup f1 = some ⟨oc1, od1, .func (PySem.W.fnOf "_law_around" "_law_around" (defArgs s__law_around) (defBody s__law_around) (defScope s__law_around) .none kV1 dc1 pm1 an1 cd1 ct1), sl1⟩) (c1 : PySem.W.codeIn K cd1 "_law_around" = true) (k1 : PySem.W.keepIn K (.ref f1) = true) (a2 : PySem.W.nsIn K mainGlobals "_mean_shift" = some (some (.ref f2))) (l2 : K.lookup f2 = some ⟨oc2, od2, .func (PySem.W.fnOf "_mean_shift" "_mean_shift" (defArgs s__mean_shift) (defBody s__mean_shift) (defScope s__mean_shift) .none kV2 dc2 pm2 an2 cd2 ct2), sl2⟩) (c2 : PySem.W.codeIn K cd2 "_mean_shift" = true) (k2 : PySem.W.keepIn K (.ref f2) = true) (a3 : PySem.W.nsIn K mainGlobals "_average" = some (some (.ref f3))) (l3 : K.lookup f3 = some ⟨oc3, od3, .func (PySem.W.fnOf "_average" "_average" (defArgs s__average) (defBody s__average) (defScope s__average) .none kV3 dc3 pm3 an3 cd3 ct3), sl3⟩) (c3 : PySem.W.codeIn K cd3 "_average" = true) (k3 : PySem.W.keepIn K (.ref f3) = true) (a4 : PySem.W.nsIn K mainGlobals "_vertical" = some (some (.ref f4))) (l4 : K.lookup f4 = some ⟨oc4, od4, .func (PySem.W.fnOf "_vertical" "_vertical" (defArgs s__vertical) (defBody s__vertical) (defScope s__vertical) .none kV4 dc4 pm4 an4 cd4 ct4), sl4⟩) (c4 : PySem.W.codeIn K cd4 "_vertical" = true) (k4 : PySem.W.keepIn K (.ref f4) = true) (a5 : PySem.W.nsIn K mainGlobals "_horizontal" = some (some (.ref f5))) (l5 : K.lookup f5 = some ⟨oc5, od5, .func (PySem.W.fnOf "_horizontal" "_horizontal" (defArgs s__horizontal) (defBody s__horizontal) (defScope s__horizontal) .none kV5 dc5 pm5 an5 cd5 ct5), sl5⟩) (c5 : PySem.W.codeIn K cd5 "_horizontal" = true) (k5 : PySem.W.keepIn K (.ref f5) = true) (a6 : PySem.W.nsIn K mainGlobals "_smooth" = some (some (.ref f6))) (l6 : K.lookup f6 = some ⟨oc6, od6, .func (PySem.W.fnOf "_smooth" "_smooth" (defArgs s__smooth) (defBody s__smooth) (defScope s__smooth) .none kV6 dc6 pm6 an6 cd6 ct6), sl6⟩) (c6 : PySem.W.codeIn K cd6 "_smooth" = true) (k6 : PySem.W.keepIn K (.ref f6) = true) (a7 : PySem.W.nsIn K mainGlobals "_nearest_of" = some (some (.ref f7))) (l7 : K.lookup f7 = some ⟨oc7, od7, .func (PySem.W.fnOf "_nearest_of" "_nearest_of" (defArgs s__nearest_of) (defBody s__nearest_of) (defScope s__nearest_of) .none kV7 dc7 pm7 an7 cd7 ct7), sl7⟩) (c7 : PySem.W.codeIn K cd7 "_nearest_of" = true) (k7 : PySem.W.keepIn K (.ref f7) = true) (a8 : PySem.W.nsIn K mainGlobals "_nearest" = some (some (.ref f8))) (l8 : K.lookup f8 = some ⟨oc8, od8, .func (PySem.W.fnOf "_nearest" "_nearest" (defArgs s__nearest) (defBody s__nearest) (defScope s__nearest) .none kV8 dc8 pm8 an8 cd8 ct8), sl8⟩) (c8 : PySem.W.codeIn K cd8 "_nearest" = true) (k8 : PySem.W.keepIn K (.ref f8) = true) (a9 : PySem.W.nsIn K mainGlobals "clip" = some (some (.ref f9))) (l9 : K.lookup f9 = some ⟨oc9, od9, .func (PySem.W.fnOf "clip" "clip" (defArgs s_clip) (defBody s_clip) (defScope s_clip) .none kV9 dc9 pm9 an9 cd9 ct9), sl9⟩) (c9 : PySem.W.codeIn K cd9 "clip" = true) (k9 : PySem.W.keepIn K (.ref f9) = true) (a10 : PySem.W.nsIn K mainGlobals "_slope" = some (some (.ref f10))) (l10 : K.lookup f10 = some ⟨oc10, od10, .func (PySem.W.fnOf "_slope" "_slope" (defArgs s__slope) (defBody s__slope) (defScope s__slope) .none kV10 dc10 pm10 an10 cd10 ct10), sl10⟩) (c10 : PySem.W.codeIn K cd10 "_slope" = true) (k10 : PySem.W.keepIn K (.ref f10) = true) (a11 : PySem.W.nsIn K mainGlobals "_means" = some (some (.ref f11))) (l11 : K.lookup f11 = some ⟨oc11, od11, .func (PySem.W.fnOf "_means" "_means" (defArgs s__means) (defBody s__means) (defScope s__means) .none kV11 dc11 pm11 an11 cd11 ct11), sl11⟩) (c11 : PySem.W.codeIn K cd11 "_means" = true) (k11 : PySem.W.keepIn K (.ref f11) = true) (a12 : PySem.W.nsIn K mainGlobals "_down_right" = some (some (.ref f12))) (l12 : K.lookup f12 = some ⟨oc12, od12, .func (PySem.W.fnOf "_down_right" "_down_right" (defArgs s__down_right) (defBody s__down_right) (defScope s__down_right) .none kV12 dc12 pm12 an12 cd12 ct12), sl12⟩) (c12 : PySem.W.codeIn K cd12 "_down_right" = true) (k12 : PySem.W.keepIn K (.ref f12) = true) (a13 : PySem.W.nsIn K mainGlobals "_down_left" = some (some (.ref f13))) (l13 : K.lookup f13 = some ⟨oc13, od13, .func (PySem.W.fnOf "_down_left" "_down_left" (defArgs s__down_left) (defBody s__down_left) (defScope s__down_left) .none kV13 dc13 pm13 an13 cd13 ct13), sl13⟩) (c13 : PySem.W.codeIn K cd13 "_down_left" = true) (k13 : PySem.W.keepIn K (.ref f13) = true) (a14 : PySem.W.nsIn K mainGlobals "predict_area" = some (some (.ref f14))) (l14 : K.lookup f14 = some ⟨oc14, od14, .func (PySem.W.fnOf "predict_area" "predict_area" (defArgs s_predict_area) (defBody s_predict_area) (defScope s_predict_area) .none kV14 dc14 pm14 an14 cd14 ct14), sl14⟩) (c14 : PySem.W.codeIn K cd14 "predict_area" = true) (k14 : PySem.W.keepIn K (.ref f14) = true) (a15 : PySem.W.nsIn K mainGlobals "_law_refused" = some (some (.ref f15))) (l15 : K.lookup f15 = some ⟨oc15, od15, .func (PySem.W.fnOf "_law_refused" "_law_refused" (defArgs s__law_refused) (defBody s__law_refused) (defScope s__law_refused) .none kV15 dc15 pm15 an15 cd15 ct15), sl15⟩) (c15 : PySem.W.codeIn K cd15 "_law_refused" = true) (k15 : PySem.W.keepIn K (.ref f15) = true) (a16 : PySem.W.nsIn K mainGlobals "_law_cell" = some (some (.ref f16))) (l16 : K.lookup f16 = some ⟨oc16, od16, .func (PySem.W.fnOf "_law_cell" "_law_cell" (defArgs s__law_cell) (defBody s__law_cell) (defScope s__law_cell) .none kV16 dc16 pm16 an16 cd16 ct16), sl16⟩) (c16 : PySem.W.codeIn K cd16 "_law_cell" = true) (k16 : PySem.W.keepIn K (.ref f16) = true) (a17 : PySem.W.nsIn K mainGlobals "_law_nearest" = some (some (.ref f17))) (l17 : K.lookup f17 = some ⟨oc17, od17, .func (PySem.W.fnOf "_law_nearest" "_law_nearest" (defArgs s__law_nearest) (defBody s__law_nearest) (defScope s__law_nearest) .none kV17 dc17 pm17 an17 cd17 ct17), sl17⟩) (c17 : PySem.W.codeIn K cd17 "_law_nearest" = true) (k17 : PySem.W.keepIn K (.ref f17) = true) (a18 : PySem.W.nsIn K mainGlobals "_law_sample" = some (some (.ref f18))) (l18 : K.lookup f18 = some ⟨oc18, od18, .func (PySem.W.fnOf "_law_sample" "_law_sample" (defArgs s__law_sample) (defBody s__law_sample) (defScope s__law_sample) .none kV18 dc18 pm18 an18 cd18 ct18), sl18⟩) (c18 : PySem.W.codeIn K cd18 "_law_sample" = true) (k18 : PySem.W.keepIn K (.ref f18) = true) (a19 : PySem.W.nsIn K mainGlobals "law" = some (some (.ref f19))) (l19 : K.lookup f19 = some ⟨oc19, od19, .func (PySem.W.fnOf "law" "law" (defArgs s_law) (defBody s_law) (defScope s_law) .none kV19 dc19 pm19 an19 cd19 ct19), sl19⟩) (c19 : PySem.W.codeIn K cd19 "law" = true) (k19 : PySem.W.keepIn K (.ref f19) = true)
    (z0 : PySem.W.nsIn K mainGlobals "abs" = some none) (z1 : PySem.W.nsIn K mainGlobals "int" = some none) (z2 : PySem.W.nsIn K mainGlobals "range" = some none) (z3 : PySem.W.nsIn K mainGlobals "min" = some none) (z4 : PySem.W.nsIn K mainGlobals "max" = some none) (z5 : PySem.W.nsIn K mainGlobals "len" = some none) (z6 : PySem.W.nsIn K mainGlobals "sum" = some none) (z7 : PySem.W.nsIn K mainGlobals "list" = some none) (z8 : PySem.W.nsIn K mainGlobals "MODES" = some (some (.ref TG_MODES))) (y8 : K.lookup TG_MODES = some ⟨.type "tuple", td8, .seq #[.ref f3, .ref f4, .ref f5, .ref f6, .ref f8, .ref f10, .ref f12, .ref f13] tn8, tsl8⟩) (z9 : PySem.W.nsIn K mainGlobals "isinstance" = some none) (exOutOfRange : PySem.W.excIn K XOutOfRange [.type "ValueError", .type "Exception", .type "BaseException", .type "object"] "ValueError.__new__" = true) (ekOutOfRange : PySem.W.keepIn K (.ref XOutOfRange) = true) (ebOutOfRange : PySem.W.subIn K (.ref XOutOfRange) (.type "BaseException") = some true) (etOutOfRange : PySem.W.typeIn K (.ref XOutOfRange) = some (.type "type")) (exCodecError : PySem.W.excIn K XCodecError [.type "ValueError", .type "Exception", .type "BaseException", .type "object"] "ValueError.__new__" = true) (ekCodecError : PySem.W.keepIn K (.ref XCodecError) = true) (ebCodecError : PySem.W.subIn K (.ref XCodecError) (.type "BaseException") = some true) (etCodecError : PySem.W.typeIn K (.ref XCodecError) = some (.type "type")) (eiOutOfRangeOutOfRange : PySem.W.isClsIn K XOutOfRange = true) (esOutOfRangeOutOfRange : PySem.W.subIn K (.ref XOutOfRange) (.ref XOutOfRange) = some true) (eiOutOfRangeCodecError : PySem.W.isClsIn K XCodecError = true) (esOutOfRangeCodecError : PySem.W.subIn K (.ref XOutOfRange) (.ref XCodecError) = some true) (c1OutOfRange : PySem.W.findIn K (.ref XOutOfRange) "__getattribute__" = some (some (.builtin "BaseException.__getattribute__"))) (c2OutOfRange : PySem.W.findIn K (.ref XOutOfRange) "__getattr__" = some none) (c3OutOfRange : PySem.W.hasDictIn K XOutOfRange = true) (c4OutOfRange : PySem.W.findIn K (.ref XOutOfRange) "__class__" = some (some (.builtin "object.__class__"))) (c5OutOfRange : PySem.W.specialIn K (.builtin "object.__class__") "__get__" = some (some (.builtin "getset_descriptor.__get__"))) (c6OutOfRange : PySem.W.takesIn K (.builtin "object.__class__") = some true) (c7OutOfRange : PySem.W.mroIn K XOutOfRange (.type "object") = some true) :
    ∃ fd : FuncData, (∀ (s : Shared) (v : Value), BindsTo s fd ⟨[v], []⟩ [("script", v)]) ∧ ∀ base : Heap, K.In base → base.Ns mainGlobals mg → FnG l.prog w K mg base CX0 5 fa fd ["script"] (spL K) := by
  have e := hfa.symm.trans (PySem.W.mg_of X G a19)
  cases e
  have T : Txt K mg ⟨XCodecError, XOutOfRange, TG_MODES, f3, f4, f5, f6, f8, f10, f12, f13, fa⟩ := ⟨PySem.W.mg_none_of X G z0, PySem.W.mg_none_of X G z1, PySem.W.mg_none_of X G z2, PySem.W.mg_none_of X G z3, PySem.W.mg_none_of X G z4, PySem.W.mg_none_of X G z5, PySem.W.mg_none_of X G z6, PySem.W.mg_none_of X G z7, ⟨_, PySem.W.mg_of X G z8, rfl⟩, fun H => .inr ⟨_, _, _, y8, rfl, rfl, (by show 8 ≤ sizeLine; decide), (.cons rfl (.cons rfl (.cons rfl (.cons rfl (.cons rfl (.cons rfl (.cons rfl (.cons rfl .nil))))))))⟩, PySem.W.mg_none_of X G z9, PySem.W.mg_of X G a3, PySem.W.mg_of X G a4, PySem.W.mg_of X G a5, PySem.W.mg_of X G a6, PySem.W.mg_of X G a8, PySem.W.mg_of X G a10, PySem.W.mg_of X G a12, PySem.W.mg_of X G a13, PySem.W.mg_of X G vOutOfRange, exOutOfRange, ekOutOfRange, ebOutOfRange, etOutOfRange, PySem.W.mg_of X G vCodecError, exCodecError, ekCodecError, ebCodecError, etCodecError, exm_mk ebOutOfRange eiOutOfRangeOutOfRange etOutOfRange esOutOfRangeOutOfRange, kit_mk eiOutOfRangeCodecError etCodecError esOutOfRangeCodecError, ⟨c1OutOfRange, c2OutOfRange, ebOutOfRange, c3OutOfRange, c4OutOfRange, c5OutOfRange, c6OutOfRange, c7OutOfRange⟩⟩
  have F0 : FunD K "_law_draws" "_law_draws" (defArgs s__law_draws) (defBody s__law_draws) (defScope s__law_draws) [] [] f0 _ := ⟨⟨_, _, _, _, _, _, _, _, _, _, rfl, l0, c0, .inl ⟨rfl, rfl⟩, .inl rfl⟩, k0⟩
  have D_0 : DefX K mg "_law_draws" s__law_draws ["cell", "limits"] pats__law_draws := ⟨_, _, _, _, F0, PySem.W.mg_of X G a0, (all_consQ (Bnd.all fun us ws vs zs l1 l2 r rz => by
      obtain ⟨u0, u1, rfl⟩ := len2 (r.length.symm.trans l1)
      obtain rfl := len0 (rz.length.symm.trans l2)
      cases r with | cons r0 r =>
        cases r with | cons r1 r =>
          cases r
          cases rz
          exact ⟨[u0, u1], rfl, (.cons r0 (.cons r1 .nil))⟩) all_nilQ)⟩
  have F1 : FunD K "_law_around" "_law_around" (defArgs s__law_around) (defBody s__law_around) (defScope s__law_around) [] [] f1 _ := ⟨⟨_, _, _, _, _, _, _, _, _, _, rfl, l1, c1, .inl ⟨rfl, rfl⟩, .inl rfl⟩, k1⟩
  have D_1 : DefX K mg "_law_around" s__law_around ["cell", "top"] pats__law_around := ⟨_, _, _, _, F1, PySem.W.mg_of X G a1, (all_consQ (Bnd.all fun us ws vs zs l1 l2 r rz => by
      obtain ⟨u0, u1, rfl⟩ := len2 (r.length.symm.trans l1)
      obtain rfl := len0 (rz.length.symm.trans l2)
      cases r with | cons r0 r =>
        cases r with | cons r1 r =>
          cases r
          cases rz
          exact ⟨[u0, u1], rfl, (.cons r0 (.cons r1 .nil))⟩) all_nilQ)⟩
  have F2 : FunD K "_mean_shift" "_mean_shift" (defArgs s__mean_shift) (defBody s__mean_shift) (defScope s__mean_shift) [] [] f2 _ := ⟨⟨_, _, _, _, _, _, _, _, _, _, rfl, l2, c2, .inl ⟨rfl, rfl⟩, .inl rfl⟩, k2⟩
  have D_2 : DefX K mg "_mean_shift" s__mean_shift ["n"] pats__mean_shift := ⟨_, _, _, _, F2, PySem.W.mg_of X G a2, (all_consQ (Bnd.all fun us ws vs zs l1 l2 r rz => by
      obtain ⟨u0, rfl⟩ := len1 (r.length.symm.trans l1)
      obtain rfl := len0 (rz.length.symm.trans l2)
      cases r with | cons r0 r =>
        cases r
        cases rz
        exact ⟨[u0], rfl, (.cons r0 .nil)⟩) all_nilQ)⟩
  have F3 : FunD K "_average" "_average" (defArgs s__average) (defBody s__average) (defScope s__average) [] [] f3 _ := ⟨⟨_, _, _, _, _, _, _, _, _, _, rfl, l3, c3, .inl ⟨rfl, rfl⟩, .inl rfl⟩, k3⟩
  have D_3 : DefX K mg "_average" s__average ["above", "left", "corner", "top"] pats__average := ⟨_, _, _, _, F3, PySem.W.mg_of X G a3, (all_consQ (Bnd.all fun us ws vs zs l1 l2 r rz => by
      obtain ⟨u0, u1, u2, u3, rfl⟩ := len4 (r.length.symm.trans l1)
      obtain rfl := len0 (rz.length.symm.trans l2)
      cases r with | cons r0 r =>
        cases r with | cons r1 r =>
          cases r with | cons r2 r =>
            cases r with | cons r3 r =>
              cases r
              cases rz
              exact ⟨[u0, u1, u2, u3], rfl, (.cons r0 (.cons r1 (.cons r2 (.cons r3 .nil))))⟩) all_nilQ)⟩
  have F4 : FunD K "_vertical" "_vertical" (defArgs s__vertical) (defBody s__vertical) (defScope s__vertical) [] [] f4 _ := ⟨⟨_, _, _, _, _, _, _, _, _, _, rfl, l4, c4, .inl ⟨rfl, rfl⟩, .inl rfl⟩, k4⟩
  have D_4 : DefX K mg "_vertical" s__vertical ["above", "left", "corner", "top"] pats__vertical := ⟨_, _, _, _, F4, PySem.W.mg_of X G a4, (all_consQ (Bnd.all fun us ws vs zs l1 l2 r rz => by
      obtain ⟨u0, u1, u2, u3, rfl⟩ := len4 (r.length.symm.trans l1)
      obtain rfl := len0 (rz.length.symm.trans l2)
      cases r with | cons r0 r =>
        cases r with | cons r1 r =>
          cases r with | cons r2 r =>
            cases r with | cons r3 r =>
              cases r
              cases rz
              exact ⟨[u0, u1, u2, u3], rfl, (.cons r0 (.cons r1 (.cons r2 (.cons r3 .nil))))⟩) all_nilQ)⟩
  have F5 : FunD K "_horizontal" "_horizontal" (defArgs s__horizontal) (defBody s__horizontal) (defScope s__horizontal) [] [] f5 _ := ⟨⟨_, _, _, _, _, _, _, _, _, _, rfl, l5, c5, .inl ⟨rfl, rfl⟩, .inl rfl⟩, k5⟩
  have D_5 : DefX K mg "_horizontal" s__horizontal ["above", "left", "corner", "top"] pats__horizontal := ⟨_, _, _, _, F5, PySem.W.mg_of X G a5, (all_consQ (Bnd.all fun us ws vs zs l1 l2 r rz => by
      obtain ⟨u0, u1, u2, u3, rfl⟩ := len4 (r.length.symm.trans l1)
      obtain rfl := len0 (rz.length.symm.trans l2)
      cases r with | cons r0 r =>
        cases r with | cons r1 r =>
          cases r with | cons r2 r =>
            cases r with | cons r3 r =>
              cases r
              cases rz
              exact ⟨[u0, u1, u2, u3], rfl, (.cons r0 (.cons r1 (.cons r2 (.cons r3 .nil))))⟩) all_nilQ)⟩
  have F6 : FunD K "_smooth" "_smooth" (defArgs s__smooth) (defBody s__smooth) (defScope s__smooth) [] [] f6 _ := ⟨⟨_, _, _, _, _, _, _, _, _, _, rfl, l6, c6, .inl ⟨rfl, rfl⟩, .inl rfl⟩, k6⟩
  have D_6 : DefX K mg "_smooth" s__smooth ["above", "left", "corner", "top"] pats__smooth := ⟨_, _, _, _, F6, PySem.W.mg_of X G a6, (all_consQ (Bnd.all fun us ws vs zs l1 l2 r rz => by
      obtain ⟨u0, u1, u2, u3, rfl⟩ := len4 (r.length.symm.trans l1)
      obtain rfl := len0 (rz.length.symm.trans l2)
      cases r with | cons r0 r =>
        cases r with | cons r1 r =>
          cases r with | cons r2 r =>
            cases r with | cons r3 r =>
              cases r
              cases rz
              exact ⟨[u0, u1, u2, u3], rfl, (.cons r0 (.cons r1 (.cons r2 (.cons r3 .nil))))⟩) all_nilQ)⟩
  have F7 : FunD K "_nearest_of" "_nearest_of" (defArgs s__nearest_of) (defBody s__nearest_of) (defScope s__nearest_of) [] [] f7 _ := ⟨⟨_, _, _, _, _, _, _, _, _, _, rfl, l7, c7, .inl ⟨rfl, rfl⟩, .inl rfl⟩, k7⟩
  have D_7 : DefX K mg "_nearest_of" s__nearest_of ["side", "sample", "corner"] pats__nearest_of := ⟨_, _, _, _, F7, PySem.W.mg_of X G a7, (all_consQ (Bnd.all fun us ws vs zs l1 l2 r rz => by
      obtain ⟨u0, u1, u2, rfl⟩ := len3 (r.length.symm.trans l1)
      obtain rfl := len0 (rz.length.symm.trans l2)
      cases r with | cons r0 r =>
        cases r with | cons r1 r =>
          cases r with | cons r2 r =>
            cases r
            cases rz
            exact ⟨[u0, u1, u2], rfl, (.cons r0 (.cons r1 (.cons r2 .nil)))⟩) all_nilQ)⟩
  have F8 : FunD K "_nearest" "_nearest" (defArgs s__nearest) (defBody s__nearest) (defScope s__nearest) [] [] f8 _ := ⟨⟨_, _, _, _, _, _, _, _, _, _, rfl, l8, c8, .inl ⟨rfl, rfl⟩, .inl rfl⟩, k8⟩
  have D_8 : DefX K mg "_nearest" s__nearest ["above", "left", "corner", "top"] pats__nearest := ⟨_, _, _, _, F8, PySem.W.mg_of X G a8, (all_consQ (Bnd.all fun us ws vs zs l1 l2 r rz => by
      obtain ⟨u0, u1, u2, u3, rfl⟩ := len4 (r.length.symm.trans l1)
      obtain rfl := len0 (rz.length.symm.trans l2)
      cases r with | cons r0 r =>
        cases r with | cons r1 r =>
          cases r with | cons r2 r =>
            cases r with | cons r3 r =>
              cases r
              cases rz
              exact ⟨[u0, u1, u2, u3], rfl, (.cons r0 (.cons r1 (.cons r2 (.cons r3 .nil))))⟩) all_nilQ)⟩
  have F9 : FunD K "clip" "clip" (defArgs s_clip) (defBody s_clip) (defScope s_clip) [] [] f9 _ := ⟨⟨_, _, _, _, _, _, _, _, _, _, rfl, l9, c9, .inl ⟨rfl, rfl⟩, .inl rfl⟩, k9⟩
  have D_9 : DefX K mg "clip" s_clip ["value", "low", "high"] pats_clip := ⟨_, _, _, _, F9, PySem.W.mg_of X G a9, (all_consQ (Bnd.all fun us ws vs zs l1 l2 r rz => by
      obtain ⟨u0, u1, u2, rfl⟩ := len3 (r.length.symm.trans l1)
      obtain rfl := len0 (rz.length.symm.trans l2)
      cases r with | cons r0 r =>
        cases r with | cons r1 r =>
          cases r with | cons r2 r =>
            cases r
            cases rz
            exact ⟨[u0, u1, u2], rfl, (.cons r0 (.cons r1 (.cons r2 .nil)))⟩) all_nilQ)⟩
  have F10 : FunD K "_slope" "_slope" (defArgs s__slope) (defBody s__slope) (defScope s__slope) [] [] f10 _ := ⟨⟨_, _, _, _, _, _, _, _, _, _, rfl, l10, c10, .inl ⟨rfl, rfl⟩, .inl rfl⟩, k10⟩
  have D_10 : DefX K mg "_slope" s__slope ["above", "left", "corner", "top"] pats__slope := ⟨_, _, _, _, F10, PySem.W.mg_of X G a10, (all_consQ (Bnd.all fun us ws vs zs l1 l2 r rz => by
      obtain ⟨u0, u1, u2, u3, rfl⟩ := len4 (r.length.symm.trans l1)
      obtain rfl := len0 (rz.length.symm.trans l2)
      cases r with | cons r0 r =>
        cases r with | cons r1 r =>
          cases r with | cons r2 r =>
            cases r with | cons r3 r =>
              cases r
              cases rz
              exact ⟨[u0, u1, u2, u3], rfl, (.cons r0 (.cons r1 (.cons r2 (.cons r3 .nil))))⟩) all_nilQ)⟩
  have F11 : FunD K "_means" "_means" (defArgs s__means) (defBody s__means) (defScope s__means) [] [] f11 _ := ⟨⟨_, _, _, _, _, _, _, _, _, _, rfl, l11, c11, .inl ⟨rfl, rfl⟩, .inl rfl⟩, k11⟩
  have D_11 : DefX K mg "_means" s__means ["samples"] pats__means := ⟨_, _, _, _, F11, PySem.W.mg_of X G a11, (all_consQ (Bnd.all fun us ws vs zs l1 l2 r rz => by
      obtain ⟨u0, rfl⟩ := len1 (r.length.symm.trans l1)
      obtain rfl := len0 (rz.length.symm.trans l2)
      cases r with | cons r0 r =>
        cases r
        cases rz
        exact ⟨[u0], rfl, (.cons r0 .nil)⟩) all_nilQ)⟩
  have F12 : FunD K "_down_right" "_down_right" (defArgs s__down_right) (defBody s__down_right) (defScope s__down_right) [] [] f12 _ := ⟨⟨_, _, _, _, _, _, _, _, _, _, rfl, l12, c12, .inl ⟨rfl, rfl⟩, .inl rfl⟩, k12⟩
  have D_12 : DefX K mg "_down_right" s__down_right ["above", "left", "corner", "top"] pats__down_right := ⟨_, _, _, _, F12, PySem.W.mg_of X G a12, (all_consQ (Bnd.all fun us ws vs zs l1 l2 r rz => by
      obtain ⟨u0, u1, u2, u3, rfl⟩ := len4 (r.length.symm.trans l1)
      obtain rfl := len0 (rz.length.symm.trans l2)
      cases r with | cons r0 r =>
        cases r with | cons r1 r =>
          cases r with | cons r2 r =>
            cases r with | cons r3 r =>
              cases r
              cases rz
              exact ⟨[u0, u1, u2, u3], rfl, (.cons r0 (.cons r1 (.cons r2 (.cons r3 .nil))))⟩) all_nilQ)⟩
  have F13 : FunD K "_down_left" "_down_left" (defArgs s__down_left) (defBody s__down_left) (defScope s__down_left) [] [] f13 _ := ⟨⟨_, _, _, _, _, _, _, _, _, _, rfl, l13, c13, .inl ⟨rfl, rfl⟩, .inl rfl⟩, k13⟩
  have D_13 : DefX K mg "_down_left" s__down_left ["above", "left", "corner", "top"] pats__down_left := ⟨_, _, _, _, F13, PySem.W.mg_of X G a13, (all_consQ (Bnd.all fun us ws vs zs l1 l2 r rz => by
      obtain ⟨u0, u1, u2, u3, rfl⟩ := len4 (r.length.symm.trans l1)
      obtain rfl := len0 (rz.length.symm.trans l2)
      cases r with | cons r0 r =>
        cases r with | cons r1 r =>
          cases r with | cons r2 r =>
            cases r with | cons r3 r =>
              cases r
              cases rz
              exact ⟨[u0, u1, u2, u3], rfl, (.cons r0 (.cons r1 (.cons r2 (.cons r3 .nil))))⟩) all_nilQ)⟩
  have F14 : FunD K "predict_area" "predict_area" (defArgs s_predict_area) (defBody s_predict_area) (defScope s_predict_area) [] [] f14 _ := ⟨⟨_, _, _, _, _, _, _, _, _, _, rfl, l14, c14, .inl ⟨rfl, rfl⟩, .inl rfl⟩, k14⟩
  have D_14 : DefX K mg "predict_area" s_predict_area ["above", "left", "corner", "mode", "top"] pats_predict_area := ⟨_, _, _, _, F14, PySem.W.mg_of X G a14, (all_consQ (Bnd.all fun us ws vs zs l1 l2 r rz => by
      obtain ⟨u0, u1, u2, u3, rfl⟩ := len4 (r.length.symm.trans l1)
      obtain ⟨w0, rfl⟩ := len1 (rz.length.symm.trans l2)
      cases r with | cons r0 r =>
        cases r with | cons r1 r =>
          cases r with | cons r2 r =>
            cases r with | cons r3 r =>
              cases r
              cases rz with | cons q0 rz =>
                cases rz
                exact ⟨[u0, u1, u2, u3, w0], rfl, (.cons r0 (.cons r1 (.cons r2 (.cons r3 (.cons q0 .nil)))))⟩) all_nilQ)⟩
  have F15 : FunD K "_law_refused" "_law_refused" (defArgs s__law_refused) (defBody s__law_refused) (defScope s__law_refused) [] [] f15 _ := ⟨⟨_, _, _, _, _, _, _, _, _, _, rfl, l15, c15, .inl ⟨rfl, rfl⟩, .inl rfl⟩, k15⟩
  have D_15 : DefX K mg "_law_refused" s__law_refused ["around", "mode", "top"] pats__law_refused := ⟨_, _, _, _, F15, PySem.W.mg_of X G a15, (all_consQ (Bnd.all fun us ws vs zs l1 l2 r rz => by
      obtain ⟨u0, u1, u2, rfl⟩ := len3 (r.length.symm.trans l1)
      obtain rfl := len0 (rz.length.symm.trans l2)
      cases r with | cons r0 r =>
        cases r with | cons r1 r =>
          cases r with | cons r2 r =>
            cases r
            cases rz
            exact ⟨[u0, u1, u2], rfl, (.cons r0 (.cons r1 (.cons r2 .nil)))⟩) all_nilQ)⟩
  have F16 : FunD K "_law_cell" "_law_cell" (defArgs s__law_cell) (defBody s__law_cell) (defScope s__law_cell) [] [] f16 _ := ⟨⟨_, _, _, _, _, _, _, _, _, _, rfl, l16, c16, .inl ⟨rfl, rfl⟩, .inl rfl⟩, k16⟩
  have D_16 : DefX K mg "_law_cell" s__law_cell ["script", "k"] pats__law_cell := ⟨_, _, _, _, F16, PySem.W.mg_of X G a16, (all_consQ (Bnd.all fun us ws vs zs l1 l2 r rz => by
      obtain ⟨u0, u1, rfl⟩ := len2 (r.length.symm.trans l1)
      obtain rfl := len0 (rz.length.symm.trans l2)
      cases r with | cons r0 r =>
        cases r with | cons r1 r =>
          cases r
          cases rz
          exact ⟨[u0, u1], rfl, (.cons r0 (.cons r1 .nil))⟩) all_nilQ)⟩
  have F17 : FunD K "_law_nearest" "_law_nearest" (defArgs s__law_nearest) (defBody s__law_nearest) (defScope s__law_nearest) [] [] f17 _ := ⟨⟨_, _, _, _, _, _, _, _, _, _, rfl, l17, c17, .inl ⟨rfl, rfl⟩, .inl rfl⟩, k17⟩
  have D_17 : DefX K mg "_law_nearest" s__law_nearest ["a", "b", "corner"] pats__law_nearest := ⟨_, _, _, _, F17, PySem.W.mg_of X G a17, (all_consQ (Bnd.all fun us ws vs zs l1 l2 r rz => by
      obtain ⟨u0, u1, u2, rfl⟩ := len3 (r.length.symm.trans l1)
      obtain rfl := len0 (rz.length.symm.trans l2)
      cases r with | cons r0 r =>
        cases r with | cons r1 r =>
          cases r with | cons r2 r =>
            cases r
            cases rz
            exact ⟨[u0, u1, u2], rfl, (.cons r0 (.cons r1 (.cons r2 .nil)))⟩) all_nilQ)⟩
  have F18 : FunD K "_law_sample" "_law_sample" (defArgs s__law_sample) (defBody s__law_sample) (defScope s__law_sample) [] [] f18 _ := ⟨⟨_, _, _, _, _, _, _, _, _, _, rfl, l18, c18, .inl ⟨rfl, rfl⟩, .inl rfl⟩, k18⟩
  have D_18 : DefX K mg "_law_sample" s__law_sample ["above", "left", "corner", "mode", "i", "j", "top"] pats__law_sample := ⟨_, _, _, _, F18, PySem.W.mg_of X G a18, (all_consQ (Bnd.all fun us ws vs zs l1 l2 r rz => by
      obtain ⟨u0, u1, u2, u3, u4, u5, u6, rfl⟩ := len7 (r.length.symm.trans l1)
      obtain rfl := len0 (rz.length.symm.trans l2)
      cases r with | cons r0 r =>
        cases r with | cons r1 r =>
          cases r with | cons r2 r =>
            cases r with | cons r3 r =>
              cases r with | cons r4 r =>
                cases r with | cons r5 r =>
                  cases r with | cons r6 r =>
                    cases r
                    cases rz
                    exact ⟨[u0, u1, u2, u3, u4, u5, u6], rfl, (.cons r0 (.cons r1 (.cons r2 (.cons r3 (.cons r4 (.cons r5 (.cons r6 .nil)))))))⟩) all_nilQ)⟩
  have F19 : FunD K "law" "law" (defArgs s_law) (defBody s_law) (defScope s_law) [] [] _ _ := ⟨⟨_, _, _, _, _, _, _, _, _, _, rfl, l19, c19, .inl ⟨rfl, rfl⟩, .inl rfl⟩, k19⟩
  have R__law_draws : ∀ base : Heap, CalX l.prog w K mg base 1 "_law_draws" (sp__law_draws K ⟨XCodecError, XOutOfRange, TG_MODES, f3, f4, f5, f6, f8, f10, f12, f13, fa⟩) pats__law_draws := fun base => ok__law_draws D_0 T 
  have R__law_around : ∀ base : Heap, CalX l.prog w K mg base 2 "_law_around" (sp__law_around K ⟨XCodecError, XOutOfRange, TG_MODES, f3, f4, f5, f6, f8, f10, f12, f13, fa⟩) pats__law_around := fun base => ok__law_around D_1 T (R__law_draws base)
  have R__mean_shift : ∀ base : Heap, CalX l.prog w K mg base 1 "_mean_shift" (sp__mean_shift K ⟨XCodecError, XOutOfRange, TG_MODES, f3, f4, f5, f6, f8, f10, f12, f13, fa⟩) pats__mean_shift := fun base => ok__mean_shift D_2 T 
  have R__average : ∀ base : Heap, CalX l.prog w K mg base 2 "_average" (sp__average K ⟨XCodecError, XOutOfRange, TG_MODES, f3, f4, f5, f6, f8, f10, f12, f13, fa⟩) pats__average := fun base => ok__average D_3 T (R__mean_shift base)
  have R__vertical : ∀ base : Heap, CalX l.prog w K mg base 1 "_vertical" (sp__vertical K ⟨XCodecError, XOutOfRange, TG_MODES, f3, f4, f5, f6, f8, f10, f12, f13, fa⟩) pats__vertical := fun base => ok__vertical D_4 T 
  have R__horizontal : ∀ base : Heap, CalX l.prog w K mg base 1 "_horizontal" (sp__horizontal K ⟨XCodecError, XOutOfRange, TG_MODES, f3, f4, f5, f6, f8, f10, f12, f13, fa⟩) pats__horizontal := fun base => ok__horizontal D_5 T 
  have R__smooth : ∀ base : Heap, CalX l.prog w K mg base 2 "_smooth" (sp__smooth K ⟨XCodecError, XOutOfRange, TG_MODES, f3, f4, f5, f6, f8, f10, f12, f13, fa⟩) pats__smooth := fun base => ok__smooth D_6 T (R__mean_shift base)
  have R__nearest_of : ∀ base : Heap, CalX l.prog w K mg base 1 "_nearest_of" (sp__nearest_of K ⟨XCodecError, XOutOfRange, TG_MODES, f3, f4, f5, f6, f8, f10, f12, f13, fa⟩) pats__nearest_of := fun base => ok__nearest_of D_7 T 
  have R__nearest : ∀ base : Heap, CalX l.prog w K mg base 2 "_nearest" (sp__nearest K ⟨XCodecError, XOutOfRange, TG_MODES, f3, f4, f5, f6, f8, f10, f12, f13, fa⟩) pats__nearest := fun base => ok__nearest D_8 T (R__nearest_of base)
  have R_clip : ∀ base : Heap, CalX l.prog w K mg base 1 "clip" (sp_clip K ⟨XCodecError, XOutOfRange, TG_MODES, f3, f4, f5, f6, f8, f10, f12, f13, fa⟩) pats_clip := fun base => ok_clip D_9 T 
  have R__slope : ∀ base : Heap, CalX l.prog w K mg base 2 "_slope" (sp__slope K ⟨XCodecError, XOutOfRange, TG_MODES, f3, f4, f5, f6, f8, f10, f12, f13, fa⟩) pats__slope := fun base => ok__slope D_10 T (R_clip base)
  have R__means : ∀ base : Heap, CalX l.prog w K mg base 1 "_means" (sp__means K ⟨XCodecError, XOutOfRange, TG_MODES, f3, f4, f5, f6, f8, f10, f12, f13, fa⟩) pats__means := fun base => ok__means D_11 T 
  have R__down_right : ∀ base : Heap, CalX l.prog w K mg base 2 "_down_right" (sp__down_right K ⟨XCodecError, XOutOfRange, TG_MODES, f3, f4, f5, f6, f8, f10, f12, f13, fa⟩) pats__down_right := fun base => ok__down_right D_12 T (R__means base)
  have R__down_left : ∀ base : Heap, CalX l.prog w K mg base 2 "_down_left" (sp__down_left K ⟨XCodecError, XOutOfRange, TG_MODES, f3, f4, f5, f6, f8, f10, f12, f13, fa⟩) pats__down_left := fun base => ok__down_left D_13 T (R__means base)
  have R_predict_area : ∀ base : Heap, CalX l.prog w K mg base 3 "predict_area" (sp_predict_area K ⟨XCodecError, XOutOfRange, TG_MODES, f3, f4, f5, f6, f8, f10, f12, f13, fa⟩) pats_predict_area := fun base => ok_predict_area D_14 T (R__down_left base) (R__down_right base) (R__slope base) (R__nearest base) (R__smooth base) (R__horizontal base) (R__vertical base) (R__average base)
  have R__law_refused : ∀ base : Heap, CalX l.prog w K mg base 4 "_law_refused" (sp__law_refused K ⟨XCodecError, XOutOfRange, TG_MODES, f3, f4, f5, f6, f8, f10, f12, f13, fa⟩) pats__law_refused := fun base => ok__law_refused D_15 T (R_predict_area base)
  have R__law_cell : ∀ base : Heap, CalX l.prog w K mg base 1 "_law_cell" (sp__law_cell K ⟨XCodecError, XOutOfRange, TG_MODES, f3, f4, f5, f6, f8, f10, f12, f13, fa⟩) pats__law_cell := fun base => ok__law_cell D_16 T 
  have R__law_nearest : ∀ base : Heap, CalX l.prog w K mg base 1 "_law_nearest" (sp__law_nearest K ⟨XCodecError, XOutOfRange, TG_MODES, f3, f4, f5, f6, f8, f10, f12, f13, fa⟩) pats__law_nearest := fun base => ok__law_nearest D_17 T 
  have R__law_sample : ∀ base : Heap, CalX l.prog w K mg base 2 "_law_sample" (sp__law_sample K ⟨XCodecError, XOutOfRange, TG_MODES, f3, f4, f5, f6, f8, f10, f12, f13, fa⟩) pats__law_sample := fun base => ok__law_sample D_18 T (R__law_nearest base)

  refine ⟨PySem.W.fnOf "law" "law" (defArgs s_law) (defBody s_law) (defScope s_law) .none kV19 dc19 pm19 an19 cd19 ct19, fun s v => .of_eq rfl, fun base _ _ => (ok_law (AD := ⟨XCodecError, XOutOfRange, TG_MODES, f3, f4, f5, f6, f8, f10, f12, f13, fa⟩) F19 T (R__law_draws base) (R__law_cell base) (R__law_around base) (R__law_sample base) (R_predict_area base) (R__law_refused base)).imp ?_⟩
  rintro vs H Q E ⟨a, xs, rfl, hs, hl, q⟩
  exact ⟨a, xs, rfl, hs, by rw [law_true xs hl]; exact cW_mk rfl, q⟩
end Vx
open PySem PySem.W PyProof.Rows
set_option maxRecDepth 100000 in
set_option maxHeartbeats 0 in
theorem PySem.Challenge.cw_thaumatrope_k30_areas_predicted_holds : PySem.Challenge.rw_thaumatrope_k30_areas_predicted.Holds := by
  w_on; o_law; k_head; (case hw => w_witness2)
  k_fill
  refine Vx.walkG (l := PySem.Challenge.rw_thaumatrope_k30_areas_predicted) (n := 63) (k := 5) (x := "script") rfl (by decide) rfl ⟨rfl, by decide, by decide⟩ (fun w h Y => PySem.W.kIn_of Y) ?F
  case F =>
    intro w mg fa h KX G hmg
    refine' Vx.all_mk KX G hmg ?vCodecError ?vOutOfRange ?a0 ?l0 ?c0 ?k0 ?a1 ?l1 ?c1 ?k1 ?a2 ?l2 ?c2 ?k2 ?a3 ?l3 ?c3 ?k3 ?a4 ?l4 ?c4 ?k4 ?a5 ?l5 ?c5 ?k5 ?a6 ?l6 ?c6 ?k6 ?a7 ?l7 ?c7 ?k7 ?a8 ?l8 ?c8 ?k8 ?a9 ?l9 ?c9 ?k9 ?a10 ?l10 ?c10 ?k10 ?a11 ?l11 ?c11 ?k11 ?a12 ?l12 ?c12 ?k12 ?a13 ?l13 ?c13 ?k13 ?a14 ?l14 ?c14 ?k14 ?a15 ?l15 ?c15 ?k15 ?a16 ?l16 ?c16 ?k16 ?a17 ?l17 ?c17 ?k17 ?a18 ?l18 ?c18 ?k18 ?a19 ?l19 ?c19 ?k19 ?z0 ?z1 ?z2 ?z3 ?z4 ?z5 ?z6 ?z7 ?z8 ?y8 ?z9 ?exOutOfRange ?ekOutOfRange ?ebOutOfRange ?etOutOfRange ?exCodecError ?ekCodecError ?ebCodecError ?etCodecError ?eiOutOfRangeOutOfRange ?esOutOfRangeOutOfRange ?eiOutOfRangeCodecError ?esOutOfRangeCodecError ?c1OutOfRange ?c2OutOfRange ?c3OutOfRange ?c4OutOfRange ?c5OutOfRange ?c6OutOfRange ?c7OutOfRange
    (case vCodecError => k_is)
    (case vOutOfRange => k_is)
    (case a0 => k_is)
    (case l0 => k_is)
    (case c0 => k_is)
    (case k0 => k_is)
    (case a1 => k_is)
    (case l1 => k_is)
    (case c1 => k_is)
    (case k1 => k_is)
    (case a2 => k_is)
    (case l2 => k_is)
    (case c2 => k_is)
    (case k2 => k_is)
    (case a3 => k_is)
    (case l3 => k_is)
    (case c3 => k_is)
    (case k3 => k_is)
    (case a4 => k_is)
    (case l4 => k_is)
    (case c4 => k_is)
    (case k4 => k_is)
    (case a5 => k_is)
    (case l5 => k_is)
    (case c5 => k_is)
    (case k5 => k_is)
    (case a6 => k_is)
    (case l6 => k_is)
    (case c6 => k_is)
    (case k6 => k_is)
    (case a7 => k_is)
    (case l7 => k_is)
    (case c7 => k_is)
    (case k7 => k_is)
    (case a8 => k_is)
    (case l8 => k_is)
    (case c8 => k_is)
    (case k8 => k_is)
    (case a9 => k_is)
    (case l9 => k_is)
    (case c9 => k_is)
    (case k9 => k_is)
    (case a10 => k_is)
    (case l10 => k_is)
    (case c10 => k_is)
    (case k10 => k_is)
    (case a11 => k_is)
    (case l11 => k_is)
    (case c11 => k_is)
    (case k11 => k_is)
    (case a12 => k_is)
    (case l12 => k_is)
    (case c12 => k_is)
    (case k12 => k_is)
    (case a13 => k_is)
    (case l13 => k_is)
    (case c13 => k_is)
    (case k13 => k_is)
    (case a14 => k_is)
    (case l14 => k_is)
    (case c14 => k_is)
    (case k14 => k_is)
    (case a15 => k_is)
    (case l15 => k_is)
    (case c15 => k_is)
    (case k15 => k_is)
    (case a16 => k_is)
    (case l16 => k_is)
    (case c16 => k_is)
    (case k16 => k_is)
    (case a17 => k_is)
    (case l17 => k_is)
    (case c17 => k_is)
    (case k17 => k_is)
    (case a18 => k_is)
    (case l18 => k_is)
    (case c18 => k_is)
    (case k18 => k_is)
    (case a19 => k_is)
    (case l19 => k_is)
    (case c19 => k_is)
    (case k19 => k_is)
    (case z0 => k_is)
    (case z1 => k_is)
    (case z2 => k_is)
    (case z3 => k_is)
    (case z4 => k_is)
    (case z5 => k_is)
    (case z6 => k_is)
    (case z7 => k_is)
    (case z8 => k_is)
    (case y8 => k_is)
    (case z9 => k_is)
    (case exOutOfRange => k_exc)
    (case ekOutOfRange => k_is)
    (case ebOutOfRange => k_is)
    (case etOutOfRange => k_is)
    (case exCodecError => k_exc)
    (case ekCodecError => k_is)
    (case ebCodecError => k_is)
    (case etCodecError => k_is)
    (case eiOutOfRangeOutOfRange => k_is)
    (case esOutOfRangeOutOfRange => first | rfl | k_is)
    (case eiOutOfRangeCodecError => k_is)
    (case esOutOfRangeCodecError => first | rfl | k_is)
    (case c1OutOfRange => k_is)
    (case c2OutOfRange => k_is)
    (case c3OutOfRange => k_is)
    (case c4OutOfRange => k_is)
    (case c5OutOfRange => k_is)
    (case c6OutOfRange => k_is)
    (case c7OutOfRange => k_is)
