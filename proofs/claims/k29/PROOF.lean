import PyProof.Rows.All
import Wide.All
import OpenK.AllK
import Wide.FinOn
import HandS.ForMost
import HandS.Codes
import HandS.Steps
import HandS.IsInst
import HandS.Property
import HandS.Wide
import HandS.WideBits
import HandS.Exc
import HandS.ExcOwn
import HandS.TryOnly
import HandS.WordsExc
import HandS.Defaults
import HandS.ExcIs
import HandS.MakeKwOnly
import HandS.RaiseMore
import HandS.Style
import HandS.Zip
import PySem.Challenge.RW_thaumatrope_k29_borders_of_areas
set_option Elab.async false
set_option linter.all false
set_option maxRecDepth 100000
set_option maxHeartbeats 8000000
namespace Vx
open PySem PySem.Spec PyProof.Rows L2

/-! ### heaps -/
def SameX (m : Addr) (H H' : Hp) : Prop := ∀ b o, H b = some o → b ≠ m → H' b = some o
theorem gen_new {H H' : Hp} {p : Addr} {o : HO} (n : H p = none) (h : upd H p o = H') : Same H H' ∧ H' p = some o := by
  subst h
  exact ⟨fun b u e => by rw [upd_ne (ne_of_none e n)]; exact e, upd_same⟩
theorem gen_mut {H H' : Hp} {m : Addr} {o : HO} (h : upd H m o = H') : SameX m H H' ∧ H' m = some o := by
  subst h
  exact ⟨fun b u e n => by rw [upd_ne n]; exact e, upd_same⟩
theorem same_mut {H0 H H' : Hp} {m : Addr} (B : Same H0 H) (x : SameX m H H') (f : H0 m = none) : Same H0 H' :=
  fun b o e => x b o (B b o e) (ne_of_none e f)
theorem map_get {xs : List Int} {i : Nat} {x : V} (h : (xs.map V.int)[i]? = some x) : ∃ o, xs[i]? = some o ∧ x = .int o := by
  rw [List.getElem?_map] at h
  cases e : xs[i]? with
  | none => rw [e] at h; cases h
  | some z => rw [e] at h; exact ⟨z, rfl, (Option.some.inj h).symm⟩
theorem get_len {α : Type} {xs : List α} {i : Nat} {x : α} (h : xs[i]? = some x) : i < xs.length := (List.getElem?_eq_some_iff.mp h).1
theorem eq_int {Q : VK} {H : Hp} {a b : Int} (h : Q (.int a) H) (e : a = b) : Q (.int b) H := e ▸ h
theorem eq_bl {Q : VK} {H : Hp} {a b : Bool} (h : Q (.bl a) H) (e : a = b) : Q (.bl b) H := e ▸ h
theorem small {n : Nat} (h : n ≤ 1000000) : n < sizeLine := Nat.lt_of_le_of_lt h (by decide)
theorem smallE {n : Nat} (h : n ≤ 1000000) : n ≤ sizeLine := Nat.le_of_lt (small h)
theorem snoc_int {xs : List Int} {y : Int} {H : Hp} {p : Addr} (h : H p = some (.lst (xs.map V.int ++ [V.int y]))) : H p = some (.lst ((xs ++ [y]).map V.int)) := by
  rw [List.map_append]; exact h
theorem cat_int {xs ys : List Int} {H : Hp} {p : Addr} (h : H p = some (.lst (xs.map V.int ++ ys.map V.int))) : H p = some (.lst ((xs ++ ys).map V.int)) := by
  rw [List.map_append]; exact h
theorem cast_lst {xs ys : List Int} {H : Hp} {p : Addr} (h : H p = some (.lst (xs.map V.int))) (e : xs = ys) : H p = some (.lst (ys.map V.int)) := e ▸ h

/-! ### tests -/
theorem dT {p : Prop} [Decidable p] (h : decide p = true) : p := of_decide_eq_true h
theorem dF {p : Prop} [Decidable p] (h : ¬ decide p = true) : ¬ p := fun x => h (decide_eq_true x)
theorem iteD {p A B : Prop} [Decidable p] (h1 : p → A) (h2 : ¬ p → B) : if decide p = true then A else B := by
  by_cases h : p
  · rw [if_pos (decide_eq_true h)]; exact h1 h
  · rw [if_neg (fun x => h (of_decide_eq_true x))]; exact h2 h
theorem iteN {p A B : Prop} [Decidable p] (h1 : ¬ p → A) (h2 : p → B) : if (!decide p) = true then A else B := by
  by_cases h : p
  · rw [decide_eq_true h]; exact iteF (h2 h)
  · rw [decide_eq_false h]; exact iteT (h1 h)
theorem iteB {b : Bool} {A B : Prop} (h1 : b = true → A) (h2 : b = false → B) : if b = true then A else B := by
  cases b with
  | true => exact iteT (h1 rfl)
  | false => exact iteF (h2 rfl)
theorem iteBN {b : Bool} {A B : Prop} (h1 : b = false → A) (h2 : b = true → B) : if (!b) = true then A else B := by
  cases b with
  | true => exact iteF (h2 rfl)
  | false => exact iteT (h1 rfl)
theorem iteDT {p A B : Prop} [Decidable p] (h : p) (k : A) : if decide p = true then A else B := by
  rw [if_pos (decide_eq_true h)]; exact k
theorem iteDF {p A B : Prop} [Decidable p] (h : ¬ p) (k : B) : if decide p = true then A else B := by
  rw [if_neg (fun x => h (of_decide_eq_true x))]; exact k
theorem iteNT {p A B : Prop} [Decidable p] (h : ¬ p) (k : A) : if (!decide p) = true then A else B := iteN (fun _ => k) (fun x => (h x).elim)
theorem iteNF {p A B : Prop} [Decidable p] (h : p) (k : B) : if (!decide p) = true then A else B := iteN (fun x => (x h).elim) (fun _ => k)

/-! ### equality of lists of ints -/
theorem eqvAll_ints : ∀ xs ys : List Int, PyData.eqvAll (xs.map PyData.int) (ys.map PyData.int) = decide (xs = ys)
  | [], [] => by simp [PyData.eqvAll]
  | [], y :: ys => by simp [PyData.eqvAll]
  | x :: xs, [] => by simp [PyData.eqvAll]
  | x :: xs, y :: ys => by
    have ih := eqvAll_ints xs ys
    simp only [List.map_cons, PyData.eqvAll, PyData.eqv, ih]
    by_cases h : x = y <;> by_cases h2 : xs = ys <;> simp [h, h2]
end Vx

namespace Vx
open PySem PySem.Spec PyProof.Rows L2
section
variable {X : Cx}
def rEqLi (K : PySem.W.Frag) : R2 := fun x y H Q => ∃ (a b : Addr) (xs ys : List Int), x = .ref a ∧ y = .ref b ∧ SqL K H a (xs.map V.int) ∧ SqL K H b (ys.map V.int) ∧ Q (.bl (decide (xs = ys))) H
def rNeLi (K : PySem.W.Frag) : R2 := fun x y H Q => ∃ (a b : Addr) (xs ys : List Int), x = .ref a ∧ y = .ref b ∧ SqL K H a (xs.map V.int) ∧ SqL K H b (ys.map V.int) ∧ Q (.bl (!decide (xs = ys))) H
theorem dpAll_ints {K : PySem.W.Frag} {H : Hp} : ∀ xs : List Int, DpAll K H (xs.map V.int) (xs.map PyData.int)
  | [] => .nil
  | x :: xs => .cons (.int x) (dpAll_ints xs)
theorem dp_ints {K : PySem.W.Frag} {H : Hp} {a : Addr} {xs : List Int} (h : SqL K H a (xs.map V.int)) : Dp K H (.ref a) (.list (xs.map PyData.int)) := .lst h (dpAll_ints xs)
theorem canLay_ints : ∀ xs : List Int, PyData.canLayAll0 (xs.map PyData.int) = true
  | [] => by simp [PyData.canLayAll0]
  | x :: xs => by simp [PyData.canLayAll0, PyData.canLay0, canLay_ints xs]
theorem depth_ints : ∀ xs : List Int, PyData.depthAll (xs.map PyData.int) = 0
  | [] => by simp [PyData.depthAll]
  | x :: xs => by simp [PyData.depthAll, PyData.depth, depth_ints xs]
theorem shaped_ints (xs : List Int) : SeqAt.shaped (.list (xs.map PyData.int)) = true := by
  unfold SeqAt.shaped
  simp [PyData.canLay0, canLay_ints, PyData.depth, depth_ints]
theorem eqv_ints (xs ys : List Int) : PyData.eqv (.list (xs.map PyData.int)) (.list (ys.map PyData.int)) = decide (xs = ys) := by
  simp only [PyData.eqv]
  exact eqvAll_ints xs ys
theorem op_eqLi (hu : X.A.units + 64 < cLine) : OpR X (compareOp .Eq) (rEqLi X.K) := by
  intro pins s σ H x y v u Q I rx ry h
  obtain ⟨a, b, xs, ys, rfl, rfl, h1, h2, q⟩ := h
  exact op_eqD hu pins s σ H _ _ v u Q I rx ry ⟨_, _, dp_ints h1, dp_ints h2, shaped_ints xs, shaped_ints ys, by rw [eqv_ints]; exact q⟩
theorem op_neLi (hu : X.A.units + 64 < cLine) : OpR X (compareOp .NotEq) (rNeLi X.K) := by
  intro pins s σ H x y v u Q I rx ry h
  obtain ⟨a, b, xs, ys, rfl, rfl, h1, h2, q⟩ := h
  exact op_neD hu pins s σ H _ _ v u Q I rx ry ⟨_, _, dp_ints h1, dp_ints h2, shaped_ints xs, shaped_ints ys, by rw [eqv_ints]; exact q⟩

/-! ### items, slices, repetition, comprehensions of ints -/
def itI (xs : List Int) (i : Int) : Int := (atI xs i).getD 0
theorem atI_int {xs : List Int} {i : Int} (h : -(xs.length : Int) ≤ i ∧ i < xs.length) : atI (xs.map V.int) i = some (.int (itI xs i)) := by
  unfold itI atI
  rw [List.length_map]
  have hk : ∃ j, ixN xs.length i = some j ∧ j < xs.length := by
    unfold ixN
    by_cases h0 : 0 ≤ i
    · refine ⟨i.toNat, ?_, by omega⟩
      rw [if_pos h0, if_pos h.2]
    · refine ⟨(i + xs.length).toNat, ?_, by omega⟩
      rw [if_neg h0, if_pos h.1]
  obtain ⟨j, e, hj⟩ := hk
  rw [e]
  show (xs.map V.int)[j]? = some (V.int ((xs[j]?).getD 0))
  rw [List.getElem?_map, List.getElem?_eq_getElem hj] <;> rfl
def cutI (xs : List Int) (lo hi : Option Int) : List Int := (xs.drop (HT.sIx xs.length 0 lo)).take (HT.sIx xs.length xs.length hi - HT.sIx xs.length 0 lo)
theorem cut_int {xs : List Int} {lo hi : Option Int} {H : Hp} {p : Addr} (h : H p = some (.lst (cutV (xs.map V.int) lo hi))) : H p = some (.lst ((cutI xs lo hi).map V.int)) := by
  rw [h]
  unfold cutV cutI
  rw [List.length_map, List.map_take, List.map_drop]
def rep (xs : List Int) (k : Int) : List Int := (List.replicate k.toNat xs).flatten
theorem rep_int {xs : List Int} {k : Int} {H : Hp} {p : Addr} (h : H p = some (.lst (List.replicate k.toNat (xs.map V.int)).flatten)) : H p = some (.lst ((rep xs k).map V.int)) := by
  rw [h]
  unfold rep
  rw [List.map_flatten, List.map_replicate]
theorem divW_lit {i j : Int} (h : 0 < j) (h2 : j.natAbs.log2 < 9000) : CDivW i j := ⟨h, h2⟩
theorem divW_small {i j : Int} (h : 0 < j) (h2 : j < 2 ^ 128) : CDivW i j := wide_div h (show j.natAbs < 2 ^ 128 by omega) (by decide) (by decide)
theorem comp_list {xs : List Int} {i : Nat} {x y : Int} {f : Int → Int} {H : Hp} {D : Addr} (hi : xs[i]? = some x) (h : H D = some (.lst (((xs.take i).map f).map V.int ++ [V.int y]))) (e : f x = y) : H D = some (.lst (((xs.take (i + 1)).map f).map V.int)) := by
  rw [h, ← e, List.take_succ, hi, List.map_append, List.map_append] <;> rfl
theorem comp_done {xs : List Int} {f : Int → Int} {H : Hp} {D : Addr} (h : H D = some (.lst (((xs.take (xs.map V.int).length).map f).map V.int))) : H D = some (.lst ((xs.map f).map V.int)) := by
  rw [List.length_map, List.take_length] at h
  exact h
theorem comp_range {i : Nat} {y : Int} {f : Nat → Int} {H : Hp} {D : Addr} (h : H D = some (.lst (((List.range i).map f).map V.int ++ [V.int y]))) (e : f i = y) : H D = some (.lst (((List.range (i + 1)).map f).map V.int)) := by
  rw [h, ← e, List.range_succ, List.map_append, List.map_append] <;> rfl
theorem iteBT {b : Bool} {A B : Prop} (h : b = true) (k : A) : if b = true then A else B := by rw [if_pos h]; exact k
theorem iteBF {b : Bool} {A B : Prop} (h : b = false) (k : B) : if b = true then A else B := by rw [if_neg (by rw [h]; decide)]; exact k
theorem take_succ_get {α : Type} {xs : List α} {i : Nat} {x : α} (hi : xs[i]? = some x) : xs.take (i + 1) = xs.take i ++ [x] := by rw [List.take_succ, hi] <;> rfl
end

/-! ### defs of the module, as callers see them -/
section
variable {P : Program} {w : World} {K : PySem.W.Frag} {mg : Str → Option Value} {base : Heap}
structure DefIn (K : PySem.W.Frag) (mg : Str → Option Value) (x : Str) (st : Stmt) (ps : List Str) : Prop where
  ex : ∃ (f : Addr) (fd : FuncData), Fun K x x st f fd ∧ mg x = some (.ref f) ∧ Binds K fd ps []
structure Cal (P : Program) (w : World) (K : PySem.W.Frag) (mg : Str → Option Value) (base : Heap) (k : Nat) (x : Str) (sp : Sp) : Prop where
  ex : ∃ (f : Addr) (fd : FuncData) (ps : List Str), FnOk P w K mg base CX0 k f fd ps sp ∧ mg x = some (.ref f) ∧ PySem.W.keepIn K (.ref f) = true ∧ Binds K fd ps []
theorem DefIn.ok {x : Str} {st : Stmt} {N ps : List Str} {k : Nat} {sp : Sp} (D : DefIn K mg x st ps) (S : FnScope N ps (defScope st)) (len : ∀ vs H Q E, sp vs H Q E → vs.length = ps.length)
    (hbody : ∀ (f : Addr) (cdv : Value) (A : Around) (outer : List Env) (s : Shared) (H : Hp) (vs : List V) (Q : VK) (E : XK), Room k (A.deeper (envOfC x (defScope st) s.heap.objs.size f cdv)) → sp vs H Q E →
      ∃ t, PSs (cxOf CX0 P w K mg base N x (defScope st) f cdv A outer s H E).nox (defBody st) t ∧ t { nx := fun _ H' => Q .non H', rt := Q } (start N vs) H) : Cal P w K mg base (k + 1) x sp := by
  obtain ⟨f, fd, F, hm, b⟩ := D.ex
  exact ⟨f, fd, ps, F.ok S len (fun cdv A outer s H vs Q E hr h => hbody f cdv A outer s H vs Q E hr h), hm, F.kp, b⟩
end
section
variable {X : Cx} {k j : Nat} {x : Str} {sp : Sp} {p pos : Pos} {e : Expr} {es : List Expr} {t : TA}
theorem vx_call (c : Cal X.prog X.w X.K X.mg X.base k x sp) (hr : Room j X.A) (hk : k ≤ j) (hg : Gl X x) (ha : PA X (e :: es) t)
    (hdb : (x == ("__debug__" : Str)) = false := by decide) (he : starEach (e :: es) X.env = (false, eval e X.env) :: starEach es X.env := by rfl) (hpl : (backTo pos (starEach es X.env)).any (·.1) = false := by rfl) :
    PE X (.Call (.Name x p) (e :: es) [] pos) (tCall sp [] E0 t) := by
  obtain ⟨f, fd, ps, F, hm, kp, b⟩ := c.ex
  exact pe_call F (hr.mono hk) hg hm kp b .nil pass0 ha hdb he hpl
end
end Vx

namespace Vx
open PySem PySem.Spec PyProof.Rows L2
section
variable {σ : L2.St} {H : Hp} {ta tb : TE} {x y z : V} {t : TT}
theorem vv_and {a b : Bool} (h1 : Val ta σ H (.bl a)) (h2 : Val tb σ H (.bl b)) : Val (tAndV ta tb) σ H (.bl (a && b)) := fun Q q => h1 _ ⟨a, rfl, by
  cases a with
  | true => exact iteT (h2 Q q)
  | false => exact iteF q⟩
theorem vv_or {a b : Bool} (h1 : Val ta σ H (.bl a)) (h2 : Val tb σ H (.bl b)) : Val (tOrV ta tb) σ H (.bl (a || b)) := fun Q q => h1 _ ⟨a, rfl, by
  cases a with
  | true => exact iteT q
  | false => exact iteF (h2 Q q)⟩
theorem vv_not {a : Bool} (h1 : Val ta σ H (.bl a)) : Val (tNotV ta) σ H (.bl (!a)) := fun Q q => h1 _ ⟨a, rfl, q⟩
theorem vv_un {r : V → Hp → VK → Prop} (ha : Val ta σ H x) (hr : ∀ Q : VK, Q z H → r x H Q) : Val (tUn r ta) σ H z := fun Q q => ha _ (hr Q q)
theorem vv_cmp {p : Int → Int → Bool} (ha : Val ta σ H x) (hb : Val tb σ H y) (hr : ∀ Q : VK, Q z H → ∃ i j, x = .int i ∧ y = .int j ∧ Q (.bl (p i j)) H) : Val (tCmp p ta tb) σ H z := fun Q q => ha _ (hb _ (hr Q q))
theorem vv_call1 {r : List V → Hp → VK → Prop} (ha : Val ta σ H x) (hr : ∀ Q : VK, Q z H → r [x] H Q) : Val (tCB r (tCons ta tNil)) σ H z := fun Q q => ha _ (hr Q q)
theorem vt_cmp {b : Bool} (h : Val ta σ H (.bl b)) : Ans (tB ta) σ H b := fun Q q => h _ ⟨b, rfl, q⟩
theorem vt_val {b : Bool} (h : Val ta σ H (.bl b)) : Ans (tB ta) σ H b := fun Q q => h _ ⟨b, rfl, q⟩
theorem vt_int {i : Int} {K : PySem.W.Frag} (h : Val ta σ H (.int i)) : Ans (fun σ H Q => ta σ H fun x H' => ∃ k, TruV K x H' k ∧ Q k H') σ H (i != 0) := fun Q q => h _ ⟨_, rfl, q⟩
theorem vv_if {p : Prop} [Decidable p] {a b : Int} (ht : Ans t σ H (decide p)) (hx : Val ta σ H (.int a)) (hy : Val tb σ H (.int b)) : Val (tIf t ta tb) σ H (.int (if p then a else b)) := fun Q q => ht _ (by
  by_cases h : p
  · rw [if_pos h] at q; exact iteDT h (hx Q q)
  · rw [if_neg h] at q; exact iteDF h (hy Q q))
theorem vv_ifb {c : Bool} {a b : Int} (ht : Ans t σ H c) (hx : Val ta σ H (.int a)) (hy : Val tb σ H (.int b)) : Val (tIf t ta tb) σ H (.int (if c = true then a else b)) := fun Q q => ht _ (by
  cases c with
  | true => exact iteT (hx Q q)
  | false => exact iteF (hy Q q))
end
end Vx

namespace Vx
open PySem PySem.Spec PyProof.Rows L2
def rLenLi (K : PySem.W.Frag) : List V → Hp → VK → Prop := fun xs H Q => ∃ (p : Addr) (ns : List Int), xs = [.ref p] ∧ SqL K H p (ns.map V.int) ∧ Q (.int (ns.length : Int)) H
theorem call_lenLi {X : Cx} : CallR X (.builtin "len") (rLenLi X.K) := by
  intro pins s σ H xs us Q I r h
  obtain ⟨p, ns, rfl, hs, q⟩ := h
  exact call_len_seq pins s σ H _ us Q I r ⟨p, _, rfl, Or.inl hs, by rw [List.length_map]; exact q⟩
end Vx

namespace Vx
open PySem PySem.Spec PyProof.Rows L2
section
variable {X : Cx} {K : PySem.W.Frag}
theorem ix_listK (hK : X.K = K := by rfl) : IxR X (rIxL K) := hK ▸ ix_list
theorem sl_listK (hK : X.K = K := by rfl) : SlR X (rSlL K) := hK ▸ sl_list
theorem call_lenLiK (hK : X.K = K := by rfl) : CallR X (.builtin "len") (rLenLi K) := hK ▸ call_lenLi
theorem op_eqLiK (hu : X.A.units + 64 < cLine) (hK : X.K = K := by rfl) : OpR X (compareOp .Eq) (rEqLi K) := hK ▸ op_eqLi hu
theorem op_neLiK (hu : X.A.units + 64 < cLine) (hK : X.K = K := by rfl) : OpR X (compareOp .NotEq) (rNeLi K) := hK ▸ op_neLi hu
theorem pi_listK {tg l : Expr} {tl : TE} (hl : PE X l tl) (hK : X.K = K := by rfl) : PI X tg l (iList K tl) := hK ▸ pi_list hl
theorem cr_sumK (hc : X.calm = true) (hK : X.K = K := by rfl) : CallR X (.builtin "sum") (rSum K) := hK ▸ cr_sum hc
theorem cr_maxK (hc : X.calm = true) (hK : X.K = K := by rfl) : CallR X (.builtin "max") (rMax K) := hK ▸ cr_max hc
theorem cr_minK (hc : X.calm = true) (hK : X.K = K := by rfl) : CallR X (.builtin "min") (rMin K) := hK ▸ cr_min hc
end
end Vx

namespace Vx
open PySem PySem.Spec PyProof.Rows L2
theorem tyes_go {σ : L2.St} {H : Hp} {f g : Hp → Prop} (h : f H) : tYes σ H (fun b H3 => if b = true then f H3 else g H3) := by
  show if true = true then f H else g H
  exact iteT h
end Vx

/-! # second part: data of any depth, the stable heap G, the owned addresses O -/
namespace Vx
open PySem PySem.Spec PyProof.Rows L2
mutual
inductive Rp (H : Hp) : V → PyData → Prop
  | non : Rp H .non .none
  | bl (b : Bool) : Rp H (.bl b) (.bool b)
  | int (i : Int) : Rp H (.int i) (.int i)
  | str (x : Str) : Rp H (.str x) (.str x)
  | lst {a : Addr} {xs : List V} {ds : List PyData} : H a = some (.lst xs) → RpAll H xs ds → Rp H (.ref a) (.list ds)
  | tup {a : Addr} {xs : List V} {ds : List PyData} : H a = some (.tup xs) → RpAll H xs ds → Rp H (.ref a) (.tuple ds)
inductive RpAll (H : Hp) : List V → List PyData → Prop
  | nil : RpAll H [] []
  | cons {v : V} {vs : List V} {d : PyData} {ds : List PyData} : Rp H v d → RpAll H vs ds → RpAll H (v :: vs) (d :: ds)
end
mutual
theorem Rp.mono {H H' : Hp} (e : Same H H') : ∀ {v : V} {d : PyData}, Rp H v d → Rp H' v d
  | _, _, .non => .non
  | _, _, .bl b => .bl b
  | _, _, .int i => .int i
  | _, _, .str x => .str x
  | _, _, .lst h r => .lst (e _ _ h) (RpAll.mono e r)
  | _, _, .tup h r => .tup (e _ _ h) (RpAll.mono e r)
theorem RpAll.mono {H H' : Hp} (e : Same H H') : ∀ {vs : List V} {ds : List PyData}, RpAll H vs ds → RpAll H' vs ds
  | _, _, .nil => .nil
  | _, _, .cons a b => .cons (Rp.mono e a) (RpAll.mono e b)
end
mutual
theorem Rp.dp {K : PySem.W.Frag} {H : Hp} : ∀ {v : V} {d : PyData}, Rp H v d → Dp K H v d
  | _, _, .non => .non
  | _, _, .bl b => .bl b
  | _, _, .int i => .int i
  | _, _, .str x => .str x
  | _, _, .lst h r => .lst (SqL.of h) (RpAll.dp r)
  | _, _, .tup h r => .tup (SqT.of h) (RpAll.dp r)
theorem RpAll.dp {K : PySem.W.Frag} {H : Hp} : ∀ {vs : List V} {ds : List PyData}, RpAll H vs ds → DpAll K H vs ds
  | _, _, .nil => .nil
  | _, _, .cons a b => .cons (Rp.dp a) (RpAll.dp b)
end
theorem RpAll.append {H : Hp} : ∀ {xs ys : List V} {ds es : List PyData}, RpAll H xs ds → RpAll H ys es → RpAll H (xs ++ ys) (ds ++ es)
  | _, _, _, _, .nil, s => s
  | _, _, _, _, .cons r t, s => .cons r (RpAll.append t s)
theorem RpAll.ints {H : Hp} : ∀ xs : List Int, RpAll H (xs.map V.int) (xs.map PyData.int)
  | [] => .nil
  | x :: xs => .cons (.int x) (RpAll.ints xs)
theorem RpAll.bls {H : Hp} : ∀ xs : List Bool, RpAll H (xs.map V.bl) (xs.map PyData.bool)
  | [] => .nil
  | x :: xs => .cons (.bl x) (RpAll.bls xs)
theorem RpAll.one {H : Hp} {v : V} {d : PyData} (h : Rp H v d) : RpAll H [v] [d] := .cons h .nil
theorem RpAll.len {H : Hp} : ∀ {vs : List V} {ds : List PyData}, RpAll H vs ds → vs.length = ds.length
  | _, _, .nil => rfl
  | _, _, .cons _ t => by rw [List.length_cons, List.length_cons, RpAll.len t]
theorem RpAll.at {H : Hp} : ∀ {vs : List V} {ds : List PyData} {i : Nat} {v : V}, RpAll H vs ds → vs[i]? = some v → ∃ d, ds[i]? = some d ∧ Rp H v d
  | _, _, _, _, .nil, h => by simp at h
  | _, _, 0, _, .cons r _, h => by
    simp at h
    subst h
    exact ⟨_, rfl, r⟩
  | _, _, i + 1, _, .cons _ t, h => by
    obtain ⟨d, h1, h2⟩ := RpAll.at (i := i) t (by simpa using h)
    exact ⟨d, by simpa using h1, h2⟩
theorem RpAll.at' {H : Hp} : ∀ {vs : List V} {ds : List PyData} {i : Nat} {d : PyData}, RpAll H vs ds → ds[i]? = some d → ∃ v, vs[i]? = some v ∧ Rp H v d
  | _, _, _, _, .nil, h => by simp at h
  | _, _, 0, _, .cons r _, h => by
    simp at h
    subst h
    exact ⟨_, rfl, r⟩
  | _, _, i + 1, _, .cons _ t, h => by
    obtain ⟨v, h1, h2⟩ := RpAll.at' (i := i) t (by simpa using h)
    exact ⟨v, by simpa using h1, h2⟩
theorem RpAll.take {H : Hp} : ∀ (n : Nat) {vs : List V} {ds : List PyData}, RpAll H vs ds → RpAll H (vs.take n) (ds.take n)
  | 0, _, _, _ => by simpa using RpAll.nil
  | n + 1, _, _, .nil => by simpa using RpAll.nil
  | n + 1, _, _, .cons r t => .cons r (RpAll.take n t)
theorem RpAll.drop {H : Hp} : ∀ (n : Nat) {vs : List V} {ds : List PyData}, RpAll H vs ds → RpAll H (vs.drop n) (ds.drop n)
  | 0, _, _, r => r
  | n + 1, _, _, .nil => by simpa using RpAll.nil
  | n + 1, _, _, .cons r t => RpAll.drop n t
theorem RpAll.set {H : Hp} {v : V} {d : PyData} (h : Rp H v d) : ∀ (n : Nat) {vs : List V} {ds : List PyData}, RpAll H vs ds → RpAll H (vs.set n v) (ds.set n d)
  | _, _, _, .nil => .nil
  | 0, _, _, .cons _ t => .cons h t
  | n + 1, _, _, .cons r t => .cons r (RpAll.set h n t)
theorem RpAll.rep {H : Hp} {vs : List V} {ds : List PyData} (h : RpAll H vs ds) : ∀ n : Nat, RpAll H (List.replicate n vs).flatten (List.replicate n ds).flatten
  | 0 => by simpa using RpAll.nil
  | n + 1 => by
    rw [List.replicate_succ, List.flatten_cons, List.replicate_succ, List.flatten_cons]
    exact RpAll.append h (RpAll.rep h n)
theorem RpAll.get {α : Type} {f : α → PyData} {H : Hp} {vs : List V} {xs : List α} {i : Nat} {v : V} (r : RpAll H vs (xs.map f)) (h : vs[i]? = some v) : ∃ x, xs[i]? = some x ∧ Rp H v (f x) := by
  obtain ⟨d, h1, h2⟩ := RpAll.at r h
  rw [List.getElem?_map] at h1
  cases e : xs[i]? with
  | none => rw [e] at h1; cases h1
  | some x =>
    rw [e] at h1
    have : f x = d := Option.some.inj h1
    exact ⟨x, rfl, this ▸ h2⟩
/-- the item at an index, data -/
theorem RpAll.ix {α : Type} {f : α → PyData} {H : Hp} {vs : List V} {xs : List α} {k : Int} (r : RpAll H vs (xs.map f)) (h : -(xs.length : Int) ≤ k ∧ k < xs.length) : ∃ v x, atI vs k = some v ∧ atI xs k = some x ∧ Rp H v (f x) := by
  have hl : vs.length = xs.length := by rw [r.len, List.length_map]
  have hk : ∃ j, ixN xs.length k = some j ∧ j < xs.length := by
    unfold ixN
    by_cases h0 : 0 ≤ k
    · refine ⟨k.toNat, ?_, by omega⟩
      rw [if_pos h0, if_pos h.2]
    · refine ⟨(k + xs.length).toNat, ?_, by omega⟩
      rw [if_neg h0, if_pos h.1]
  obtain ⟨j, e, hj⟩ := hk
  have hx := List.getElem?_eq_getElem hj
  obtain ⟨v, h1, h2⟩ := RpAll.at' (i := j) (d := f xs[j]) r (by rw [List.getElem?_map, hx] <;> rfl)
  refine ⟨v, xs[j], ?_, ?_, h2⟩
  · unfold atI
    rw [hl, e]
    exact h1
  · unfold atI
    rw [e]
    exact hx

/-! ### types -/
def encL {α : Type} (f : α → PyData) (xs : List α) : PyData := .list (xs.map f)
def encT2 {α β : Type} (f : α → PyData) (g : β → PyData) (p : α × β) : PyData := .tuple [f p.1, g p.2]
def encT3 {α β γ : Type} (f : α → PyData) (g : β → PyData) (h : γ → PyData) (p : α × β × γ) : PyData := .tuple [f p.1, g p.2.1, h p.2.2]
def encT4 {α β γ δ : Type} (f : α → PyData) (g : β → PyData) (h : γ → PyData) (i : δ → PyData) (p : α × β × γ × δ) : PyData := .tuple [f p.1, g p.2.1, h p.2.2.1, i p.2.2.2]
structure EncOk {α : Type} [DecidableEq α] (n : Nat) (f : α → PyData) : Prop where
  lay : ∀ x, PyData.canLay0 (f x) = true
  dep : ∀ x, PyData.depth (f x) ≤ n
  eqv : ∀ x y, PyData.eqv (f x) (f y) = decide (x = y)
theorem encOk_int : EncOk 0 PyData.int := ⟨fun _ => by simp [PyData.canLay0], fun _ => by simp [PyData.depth], fun x y => by simp [PyData.eqv]; by_cases h : x = y <;> simp [h]⟩
theorem encOk_bool : EncOk 0 PyData.bool := ⟨fun _ => by simp [PyData.canLay0], fun _ => by simp [PyData.depth], fun x y => by cases x <;> cases y <;> simp [PyData.eqv]⟩
section
variable {α β γ δ : Type} [DecidableEq α] [DecidableEq β] [DecidableEq γ] [DecidableEq δ] {n m l o : Nat} {f : α → PyData} {g : β → PyData} {h : γ → PyData} {i : δ → PyData}
theorem lay_map (ok : EncOk n f) : ∀ xs : List α, PyData.canLayAll0 (xs.map f) = true
  | [] => by simp [PyData.canLayAll0]
  | x :: xs => by simp [PyData.canLayAll0, ok.lay x, lay_map ok xs]
theorem dep_map (ok : EncOk n f) : ∀ xs : List α, PyData.depthAll (xs.map f) ≤ n
  | [] => by simp [PyData.depthAll]
  | x :: xs => by
    have h1 := ok.dep x
    have h2 := dep_map ok xs
    simp only [List.map_cons, PyData.depthAll]
    omega
theorem eqv_map (ok : EncOk n f) : ∀ xs ys : List α, PyData.eqvAll (xs.map f) (ys.map f) = decide (xs = ys)
  | [], [] => by simp [PyData.eqvAll]
  | [], y :: ys => by simp [PyData.eqvAll]
  | x :: xs, [] => by simp [PyData.eqvAll]
  | x :: xs, y :: ys => by
    have ih := eqv_map ok xs ys
    simp only [List.map_cons, PyData.eqvAll, ok.eqv, ih]
    by_cases h : x = y <;> by_cases h2 : xs = ys <;> simp [h, h2]
theorem encOk_L (ok : EncOk n f) : EncOk (n + 1) (encL f) := ⟨fun xs => by simp [encL, PyData.canLay0, lay_map ok], fun xs => by
  have := dep_map ok xs
  simp only [encL, PyData.depth]
  omega, fun xs ys => by simp only [encL, PyData.eqv]; exact eqv_map ok xs ys⟩
theorem encOk_T2 (ok : EncOk n f) (ok2 : EncOk m g) : EncOk (max n m + 1) (encT2 f g) := ⟨fun x => by simp [encT2, PyData.canLay0, PyData.canLayAll0, ok.lay, ok2.lay], fun x => by
  have h1 := ok.dep x.1
  have h2 := ok2.dep x.2
  simp only [encT2, PyData.depth, PyData.depthAll]
  omega, fun x y => by
  obtain ⟨a, b⟩ := x
  obtain ⟨c, d⟩ := y
  simp only [encT2, PyData.eqv, PyData.eqvAll, ok.eqv, ok2.eqv, Prod.mk.injEq]
  by_cases h1 : a = c <;> by_cases h2 : b = d <;> simp [h1, h2]⟩
theorem encOk_T3 (ok : EncOk n f) (ok2 : EncOk m g) (ok3 : EncOk l h) : EncOk (max n (max m l) + 1) (encT3 f g h) := ⟨fun x => by simp [encT3, PyData.canLay0, PyData.canLayAll0, ok.lay, ok2.lay, ok3.lay], fun x => by
  have h1 := ok.dep x.1
  have h2 := ok2.dep x.2.1
  have h3 := ok3.dep x.2.2
  simp only [encT3, PyData.depth, PyData.depthAll]
  omega, fun x y => by
  obtain ⟨a, b, e⟩ := x
  obtain ⟨c, d, e'⟩ := y
  simp only [encT3, PyData.eqv, PyData.eqvAll, ok.eqv, ok2.eqv, ok3.eqv, Prod.mk.injEq]
  by_cases h1 : a = c <;> by_cases h2 : b = d <;> by_cases h3 : e = e' <;> simp [h1, h2, h3]⟩
theorem encOk_T4 (ok : EncOk n f) (ok2 : EncOk m g) (ok3 : EncOk l h) (ok4 : EncOk o i) : EncOk (max n (max m (max l o)) + 1) (encT4 f g h i) := ⟨fun x => by simp [encT4, PyData.canLay0, PyData.canLayAll0, ok.lay, ok2.lay, ok3.lay, ok4.lay], fun x => by
  have h1 := ok.dep x.1
  have h2 := ok2.dep x.2.1
  have h3 := ok3.dep x.2.2.1
  have h4 := ok4.dep x.2.2.2
  simp only [encT4, PyData.depth, PyData.depthAll]
  omega, fun x y => by
  obtain ⟨a, b, e, u⟩ := x
  obtain ⟨c, d, e', u'⟩ := y
  simp only [encT4, PyData.eqv, PyData.eqvAll, ok.eqv, ok2.eqv, ok3.eqv, ok4.eqv, Prod.mk.injEq]
  by_cases h1 : a = c <;> by_cases h2 : b = d <;> by_cases h3 : e = e' <;> by_cases h4 : u = u' <;> simp [h1, h2, h3, h4]⟩
end
section
variable {X : Cx} {α : Type} [DecidableEq α] {n : Nat} {f : α → PyData}
def rEqT (f : α → PyData) : R2 := fun x y H Q => ∃ (a b : α), Rp H x (f a) ∧ Rp H y (f b) ∧ Q (.bl (decide (a = b))) H
def rNeT (f : α → PyData) : R2 := fun x y H Q => ∃ (a b : α), Rp H x (f a) ∧ Rp H y (f b) ∧ Q (.bl (!decide (a = b))) H
theorem shaped_of (ok : EncOk n f) (hn : n ≤ 64) (a : α) : SeqAt.shaped (f a) = true := by
  unfold SeqAt.shaped
  have h := ok.dep a
  rw [ok.lay]
  simp
  omega
theorem op_eqT (ok : EncOk n f) (hu : X.A.units + 64 < cLine) (hn : n ≤ 64 := by decide) : OpR X (compareOp .Eq) (rEqT f) := by
  intro pins s σ H x y v u Q I rx ry h
  obtain ⟨a, b, h1, h2, q⟩ := h
  exact op_eqD hu pins s σ H _ _ v u Q I rx ry ⟨_, _, h1.dp, h2.dp, shaped_of ok hn a, shaped_of ok hn b, by rw [ok.eqv]; exact q⟩
theorem op_neT (ok : EncOk n f) (hu : X.A.units + 64 < cLine) (hn : n ≤ 64 := by decide) : OpR X (compareOp .NotEq) (rNeT f) := by
  intro pins s σ H x y v u Q I rx ry h
  obtain ⟨a, b, h1, h2, q⟩ := h
  exact op_neD hu pins s σ H _ _ v u Q I rx ry ⟨_, _, h1.dp, h2.dp, shaped_of ok hn a, shaped_of ok hn b, by rw [ok.eqv]; exact q⟩
end
section
variable {H : Hp} {v : V} {α β γ δ : Type} {f : α → PyData} {g : β → PyData} {h : γ → PyData} {i : δ → PyData}
theorem rp_int {x : Int} (r : Rp H v (.int x)) : v = .int x := by cases r; rfl
theorem rp_bool {x : Bool} (r : Rp H v (.bool x)) : v = .bl x := by cases r; rfl
theorem rp_str {x : Str} (r : Rp H v (.str x)) : v = .str x := by cases r; rfl
theorem rp_list {xs : List α} (r : Rp H v (encL f xs)) : ∃ a vs, v = .ref a ∧ H a = some (.lst vs) ∧ RpAll H vs (xs.map f) := by
  unfold encL at r
  cases r with
  | lst h1 h2 => exact ⟨_, _, rfl, h1, h2⟩
theorem rpAll_ints : ∀ {vs : List V} {xs : List Int}, RpAll H vs (xs.map PyData.int) → vs = xs.map V.int
  | _, [], .nil => rfl
  | _, x :: xs, .cons r t => by rw [rp_int r, rpAll_ints t] <;> rfl
theorem rp_ints {xs : List Int} (r : Rp H v (encL PyData.int xs)) : ∃ a, v = .ref a ∧ H a = some (.lst (xs.map V.int)) := by
  obtain ⟨a, vs, e, h1, h2⟩ := rp_list r
  rw [rpAll_ints h2] at h1
  exact ⟨a, e, h1⟩
theorem rp_tup2 {x : α × β} (r : Rp H v (encT2 f g x)) : ∃ a v1 v2, v = .ref a ∧ H a = some (.tup [v1, v2]) ∧ Rp H v1 (f x.1) ∧ Rp H v2 (g x.2) := by
  unfold encT2 at r
  cases r with
  | tup h1 h2 =>
    cases h2 with
    | cons a b =>
      cases b with
      | cons b c =>
        cases c
        exact ⟨_, _, _, rfl, h1, a, b⟩
theorem rp_tup3 {x : α × β × γ} (r : Rp H v (encT3 f g h x)) : ∃ a v1 v2 v3, v = .ref a ∧ H a = some (.tup [v1, v2, v3]) ∧ Rp H v1 (f x.1) ∧ Rp H v2 (g x.2.1) ∧ Rp H v3 (h x.2.2) := by
  unfold encT3 at r
  cases r with
  | tup h1 h2 =>
    cases h2 with
    | cons a b =>
      cases b with
      | cons b c =>
        cases c with
        | cons c d =>
          cases d
          exact ⟨_, _, _, _, rfl, h1, a, b, c⟩
theorem rp_mk_list {a : Addr} {vs : List V} {xs : List α} (h1 : H a = some (.lst vs)) (h2 : RpAll H vs (xs.map f)) : Rp H (.ref a) (encL f xs) := .lst h1 h2
theorem rp_mk_ints {a : Addr} {xs : List Int} (h1 : H a = some (.lst (xs.map V.int))) : Rp H (.ref a) (encL PyData.int xs) := .lst h1 (RpAll.ints xs)
theorem rp_mk2 {a : Addr} {v1 v2 : V} {x : α} {y : β} (h1 : H a = some (.tup [v1, v2])) (r1 : Rp H v1 (f x)) (r2 : Rp H v2 (g y)) : Rp H (.ref a) (encT2 f g (x, y)) := .tup h1 (.cons r1 (.cons r2 .nil))
theorem rp_mk3 {a : Addr} {v1 v2 v3 : V} {x : α} {y : β} {z : γ} (h1 : H a = some (.tup [v1, v2, v3])) (r1 : Rp H v1 (f x)) (r2 : Rp H v2 (g y)) (r3 : Rp H v3 (h z)) : Rp H (.ref a) (encT3 f g h (x, y, z)) := .tup h1 (.cons r1 (.cons r2 (.cons r3 .nil)))
end

/-! ### the two heaps -/
def SameXs (L : List Addr) (H H' : Hp) : Prop := ∀ b o, H b = some o → b ∉ L → H' b = some o
theorem SameXs.of {H H' : Hp} {m : Addr} (x : SameX m H H') : SameXs [m] H H' := fun b o e n => x b o e (fun z => n (by rw [z]; exact List.mem_cons_self))
theorem ni1 {b m : Addr} (h : b ≠ m) : b ∉ [m] := by simpa using h
theorem ni2 {b m n : Addr} (h : b ≠ m) (h2 : b ≠ n) : b ∉ [m, n] := by simp [h, h2]
theorem ni3 {b m n o : Addr} (h : b ≠ m) (h2 : b ≠ n) (h3 : b ≠ o) : b ∉ [m, n, o] := by simp [h, h2, h3]
theorem ni4 {b m n o p : Addr} (h : b ≠ m) (h2 : b ≠ n) (h3 : b ≠ o) (h4 : b ≠ p) : b ∉ [m, n, o, p] := by simp [h, h2, h3, h4]
def hideL (L : List Addr) (H : Hp) : Hp := fun b => if b ∈ L then none else H b
theorem hideL_same (L : List Addr) (H : Hp) : Same (hideL L H) H := fun b o e => by
  unfold hideL at e
  split at e
  · cases e
  · exact e
theorem hideL_in {L : List Addr} {H : Hp} {b : Addr} (h : b ∈ L) : hideL L H b = none := if_pos h
theorem hideL_out {L : List Addr} {H : Hp} {b : Addr} (h : b ∉ L) : hideL L H b = H b := if_neg h
/-- M: owned from outside; H0, G0: at the entry; G: what stays as it is; O: what may change -/
structure Sep (M : List Addr) (H0 G0 G H : Hp) (O : List Addr) : Prop where
  base : SameXs M H0 H
  pm : ∀ a ∈ M, H a ≠ none
  sG : Same G H
  g0 : Same G0 G
  gn : ∀ b, H0 b ≠ none → G0 b = none → G b = none
  ow : ∀ a ∈ O, G a = none ∧ H a ≠ none ∧ (a ∈ M ∨ H0 a = none)
theorem all_nil {P : Addr → Prop} : ∀ x ∈ ([] : List Addr), P x := fun x h => by cases h
theorem all_cons {P : Addr → Prop} {a : Addr} {l : List Addr} (h : P a) (t : ∀ x ∈ l, P x) : ∀ x ∈ a :: l, P x := fun x hx => by
  cases hx with
  | head => exact h
  | tail _ hx => exact t x hx
theorem some_ne {H : Hp} {a : Addr} {o : HO} (h : H a = some o) : H a ≠ none := by
  rw [h]
  exact fun z => nomatch z
theorem same_ne {H H' : Hp} {a : Addr} (e : Same H H') (h : H a ≠ none) : H' a ≠ none := by
  cases q : H a with
  | none => exact absurd q h
  | some o => exact some_ne (e a o q)
section
variable {M : List Addr} {H0 G0 G H H' : Hp} {O : List Addr} {p m : Addr} {o : HO}
theorem Sep.start (M : List Addr) (H : Hp) (hM : ∀ a ∈ M, H a ≠ none) : Sep M H (hideL M H) (hideL M H) H M :=
  ⟨fun _ _ e _ => e, hM, hideL_same M H, Same.refl _, fun _ _ e => e, fun a ha => ⟨hideL_in ha, hM a ha, .inl ha⟩⟩
theorem Sep.startG {G H : Hp} (e : Same G H) : Sep [] H G G H [] := ⟨fun _ _ e _ => e, all_nil, e, Same.refl _, fun _ _ e => e, fun a ha => by cases ha⟩
theorem Sep.start0 (H : Hp) : Sep [] H H H H [] := Sep.startG (Same.refl H)
theorem Sep.b0 (S : Sep [] H0 G0 G H O) : Same H0 H := fun b o e => S.base b o e List.not_mem_nil
theorem Sep.free (S : Sep M H0 G0 G H O) {q : Addr} (n : H q = none) : H0 q = none := by
  cases e : H0 q with
  | none => rfl
  | some o =>
    by_cases h : q ∈ M
    · exact absurd n (S.pm q h)
    · rw [S.base q o e h] at n
      cases n
theorem Sep.same (S : Sep M H0 G0 G H O) (e : Same H H') : Sep M H0 G0 G H' O :=
  ⟨fun b o h n => e b o (S.base b o h n), fun a ha => same_ne e (S.pm a ha), S.sG.trans e, S.g0, S.gn, fun a ha => ⟨(S.ow a ha).1, same_ne e (S.ow a ha).2.1, (S.ow a ha).2.2⟩⟩
theorem Sep.gfree (S : Sep M H0 G0 G H O) {q : Addr} (n : H q = none) : G q = none := by
  cases e : G q with
  | none => rfl
  | some o => rw [S.sG q o e] at n; cases n
theorem Sep.new (S : Sep M H0 G0 G H O) (n : H p = none) (e : Same H H') (h : H' p = some o) (hm : H0 p = none) : Sep M H0 G0 G H' (p :: O) := by
  have S1 := S.same e
  refine ⟨S1.base, S1.pm, S1.sG, S1.g0, S1.gn, fun a ha => ?_⟩
  cases ha with
  | head => exact ⟨S.gfree n, some_ne h, .inr hm⟩
  | tail _ ha => exact S1.ow a ha
theorem Sep.grow (S : Sep M H0 G0 G H O) (n : H p = none) (e : Same H H') (h : H' p = some o) (hm : H0 p = none) : ∃ G', Same G G' ∧ G' p = some o ∧ Sep M H0 G0 G' H' O := by
  have S1 := S.same e
  have ng := S.gfree n
  refine ⟨upd G p o, fun b u q => by rw [upd_ne (ne_of_none q ng)]; exact q, upd_same, S1.base, S1.pm, fun b u q => ?_, fun b u q => ?_, fun b hb gb => ?_, fun a ha => ?_⟩
  · by_cases z : b = p
    · subst z
      rw [upd_same] at q
      exact q ▸ h
    · rw [upd_ne z] at q
      exact S1.sG b u q
  · have := S.g0 b u q
    rw [upd_ne (ne_of_none this ng)]
    exact this
  · by_cases z : b = p
    · subst z
      exact absurd hm hb
    · rw [upd_ne z]
      exact S.gn b hb gb
  · have hne : a ≠ p := fun z => (S.ow a ha).2.1 (by rw [z]; exact n)
    rw [upd_ne hne]
    exact S1.ow a ha
theorem Sep.mut (S : Sep M H0 G0 G H O) {L : List Addr} (x : SameXs L H H') (hL : ∀ a ∈ L, a ∈ O) (hs : ∀ a ∈ L, H' a ≠ none) : Sep M H0 G0 G H' O := by
  have keep : ∀ a, H a ≠ none → H' a ≠ none := fun a h => by
    by_cases hb : a ∈ L
    · exact hs a hb
    · cases q : H a with
      | none => exact absurd q h
      | some o => exact some_ne (x a o q hb)
  refine ⟨fun b o e n => ?_, fun a ha => keep a (S.pm a ha), fun b o e => ?_, S.g0, S.gn, fun a ha => ⟨(S.ow a ha).1, keep a (S.ow a ha).2.1, (S.ow a ha).2.2⟩⟩
  · refine x b o (S.base b o e n) fun hb => ?_
    rcases (S.ow b (hL b hb)).2.2 with z | z
    · exact n z
    · rw [e] at z; cases z
  · refine x b o (S.sG b o e) fun hb => ?_
    have := (S.ow b (hL b hb)).1
    rw [e] at this
    cases this
theorem Sep.mut1 (S : Sep M H0 G0 G H O) (x : SameX m H H') (hm : m ∈ O) (h : H' m = some o) : Sep M H0 G0 G H' O :=
  S.mut (SameXs.of x) (all_cons hm all_nil) (all_cons (some_ne h) all_nil)
theorem Sep.sub (S : Sep M H0 G0 G H O) {O' : List Addr} (h : ∀ a ∈ O', a ∈ O) : Sep M H0 G0 G H O' := ⟨S.base, S.pm, S.sG, S.g0, S.gn, fun a ha => S.ow a (h a ha)⟩
/-- what was owned and is to stay as it is from now on -/
theorem Sep.freeze (S : Sep M H0 G0 G H O) {O' : List Addr} (hp : p ∈ O) (h : H p = some o) (hm : H0 p = none) (hO : ∀ a ∈ O', a ∈ O ∧ a ≠ p) : ∃ G', Same G G' ∧ G' p = some o ∧ Sep M H0 G0 G' H O' := by
  have ng := (S.ow p hp).1
  refine ⟨upd G p o, fun b u q => by rw [upd_ne (ne_of_none q ng)]; exact q, upd_same, S.base, S.pm, fun b u q => ?_, fun b u q => ?_, fun b hb gb => ?_, fun a ha => ?_⟩
  · by_cases z : b = p
    · subst z
      rw [upd_same] at q
      exact q ▸ h
    · rw [upd_ne z] at q
      exact S.sG b u q
  · have := S.g0 b u q
    rw [upd_ne (ne_of_none this ng)]
    exact this
  · by_cases z : b = p
    · subst z
      exact absurd hm hb
    · rw [upd_ne z]
      exact S.gn b hb gb
  · rw [upd_ne (hO a ha).2]
    exact S.ow a (hO a ha).1
/-- a callee that hands on data in a stable heap of its own -/
theorem Sep.step (S : Sep M H0 G0 G H O) {G' : Hp} (e : Same H H') (eG : Same G G') (sG : Same G' H') (hn : ∀ b, H b ≠ none → G b = none → G' b = none) : Sep M H0 G0 G' H' O := by
  have S1 := S.same e
  refine ⟨S1.base, S1.pm, sG, S.g0.trans eG, fun b hb gb => ?_, fun a ha => ⟨hn a (S.ow a ha).2.1 (S.ow a ha).1, (S1.ow a ha).2⟩⟩
  refine hn b (fun z => ?_) (S.gn b hb gb)
  exact hb (S.free z)
theorem Sep.hid (S : Sep M H0 G0 G H O) {L : List Addr} (h : ∀ a ∈ L, a ∈ O) : Same G (hideL L H) := fun b o e => by
  rw [hideL_out fun z => by
    have := (S.ow b (h b z)).1
    rw [e] at this
    cases this]
  exact S.sG b o e
end
end Vx

namespace Vx
open PySem PySem.Spec PyProof.Rows L2
/-! ### lists of plain things (f : V.int, V.bl, V.str) -/
section
variable {α : Type} {f : α → V} {H : Hp} {p : Addr}
theorem cat_map {xs ys : List α} (h : H p = some (.lst (xs.map f ++ ys.map f))) : H p = some (.lst ((xs ++ ys).map f)) := by
  rw [List.map_append]; exact h
theorem snoc_map {xs : List α} {y : α} (h : H p = some (.lst (xs.map f ++ [f y]))) : H p = some (.lst ((xs ++ [y]).map f)) := by
  rw [List.map_append]; exact h
def repL (xs : List α) (k : Int) : List α := (List.replicate k.toNat xs).flatten
theorem rep_map {xs : List α} {k : Int} (h : H p = some (.lst (List.replicate k.toNat (xs.map f)).flatten)) : H p = some (.lst ((repL xs k).map f)) := by
  rw [h]
  unfold repL
  rw [List.map_flatten, List.map_replicate]
def cutL (xs : List α) (lo hi : Option Int) : List α := (xs.drop (HT.sIx xs.length 0 lo)).take (HT.sIx xs.length xs.length hi - HT.sIx xs.length 0 lo)
theorem cut_map {xs : List α} {lo hi : Option Int} (h : H p = some (.lst (cutV (xs.map f) lo hi))) : H p = some (.lst ((cutL xs lo hi).map f)) := by
  rw [h]
  unfold cutV cutL
  rw [List.length_map, List.map_take, List.map_drop]
theorem cast_map {xs ys : List α} (h : H p = some (.lst (xs.map f))) (e : xs = ys) : H p = some (.lst (ys.map f)) := e ▸ h
theorem drop_map {xs : List α} (h : H p = some (.lst (xs.map f).dropLast)) : H p = some (.lst (xs.dropLast.map f)) := by
  rw [h, List.map_dropLast]
theorem ixN_some {n : Nat} {k : Int} (h : -(n : Int) ≤ k ∧ k < n) : ∃ j, ixN n k = some j ∧ j < n := by
  unfold ixN
  by_cases h0 : 0 ≤ k
  · exact ⟨k.toNat, by rw [if_pos h0, if_pos h.2], by omega⟩
  · exact ⟨(k + n).toNat, by rw [if_neg h0, if_pos h.1], by omega⟩
def itD [Inhabited α] (xs : List α) (k : Int) : α := (atI xs k).getD default
theorem atI_map [Inhabited α] {xs : List α} {k : Int} (h : -(xs.length : Int) ≤ k ∧ k < xs.length) : atI (xs.map f) k = some (f (itD xs k)) := by
  obtain ⟨j, e, hj⟩ := ixN_some h
  unfold itD atI
  rw [List.length_map, e]
  show (xs.map f)[j]? = some (f ((xs[j]?).getD default))
  rw [List.getElem?_map, List.getElem?_eq_getElem hj] <;> rfl
def setL (xs : List α) (k : Int) (y : α) : List α := xs.set ((ixN xs.length k).getD 0) y
theorem ixN_map {xs : List α} {k : Int} (h : -(xs.length : Int) ≤ k ∧ k < xs.length) : ixN (xs.map f).length k = some ((ixN xs.length k).getD 0) := by
  obtain ⟨j, e, hj⟩ := ixN_some h
  rw [List.length_map, e] <;> rfl
theorem set_map {xs : List α} {k : Int} {y : α} (h : H p = some (.lst ((xs.map f).set ((ixN xs.length k).getD 0) (f y)))) : H p = some (.lst ((setL xs k y).map f)) := by
  rw [h]
  unfold setL
  rw [List.map_set]
def lastD [Inhabited α] (xs : List α) : α := xs.getLastD default
theorem pop_map [Inhabited α] {xs : List α} (h : xs ≠ []) : (xs.map f)[(xs.map f).length - 1]? = some (f (lastD xs)) := by
  rw [← List.getLast?_eq_getElem?, List.getLast?_map]
  unfold lastD
  cases e : xs.getLast? with
  | none => exact absurd (List.getLast?_eq_none_iff.mp e) h
  | some y =>
    rw [List.getLastD_eq_getLast?, e] <;> rfl
end
/-! ### lists of data -/
section
variable {α β : Type} {f : α → PyData} {g : β → PyData} {G : Hp} {vs ws : List V} {xs ys : List α}
theorem app_map (a : RpAll G vs (xs.map f)) (b : RpAll G ws (ys.map f)) : RpAll G (vs ++ ws) ((xs ++ ys).map f) := by
  rw [List.map_append]; exact a.append b
theorem one_map {v : V} {y : α} (a : RpAll G vs (xs.map f)) (b : Rp G v (f y)) : RpAll G (vs ++ [v]) ((xs ++ [y]).map f) := by
  rw [List.map_append]; exact a.append (.one b)
theorem rep_all (k : Int) (a : RpAll G vs (xs.map f)) : RpAll G (List.replicate k.toNat vs).flatten ((repL xs k).map f) := by
  unfold repL
  rw [List.map_flatten, List.map_replicate]
  exact a.rep _
theorem cut_all (lo hi : Option Int) (a : RpAll G vs (xs.map f)) : RpAll G (cutV vs lo hi) ((cutL xs lo hi).map f) := by
  unfold cutV cutL
  rw [a.len, List.length_map, List.map_take, List.map_drop]
  exact (a.drop _).take _
theorem rp_cast {v : V} {d e : PyData} (r : Rp G v d) (h : d = e) : Rp G v e := h ▸ r
theorem comp_listD {i : Nat} {x : α} {y : β} {v : V} {h : α → β} (hi : xs[i]? = some x) (a : RpAll G vs (((xs.take i).map h).map g)) (r : Rp G v (g y)) (e : h x = y) : RpAll G (vs ++ [v]) (((xs.take (i + 1)).map h).map g) := by
  rw [take_succ_get hi, List.map_append, List.map_append]
  exact a.append (.one (e ▸ r))
theorem comp_rangeD {i : Nat} {y : β} {v : V} {h : Nat → β} (a : RpAll G vs (((List.range i).map h).map g)) (r : Rp G v (g y)) (e : h i = y) : RpAll G (vs ++ [v]) (((List.range (i + 1)).map h).map g) := by
  rw [List.range_succ, List.map_append, List.map_append]
  exact a.append (.one (e ▸ r))
theorem comp_doneD {n : Nat} {h : List α → List β} (hl : n = xs.length) (a : RpAll G vs ((h (xs.take n)).map g)) : RpAll G vs ((h xs).map g) := by
  rw [hl, List.take_length] at a
  exact a
theorem comp_listFD {i : Nat} {x : α} {y : β} {v : V} {h : α → β} {q : α → Bool} (hi : xs[i]? = some x) (hq : q x = true) (a : RpAll G vs ((((xs.take i).filter q).map h).map g)) (r : Rp G v (g y)) (e : h x = y) : RpAll G (vs ++ [v]) ((((xs.take (i + 1)).filter q).map h).map g) := by
  rw [take_succ_get hi, List.filter_append, List.filter_cons, if_pos hq, List.map_append, List.map_append]
  exact a.append (.one (e ▸ r))
theorem skip_listD {i : Nat} {x : α} {h : α → β} {q : α → Bool} (hi : xs[i]? = some x) (hq : q x = false) (a : RpAll G vs ((((xs.take i).filter q).map h).map g)) : RpAll G vs ((((xs.take (i + 1)).filter q).map h).map g) := by
  rw [take_succ_get hi, List.filter_append, List.filter_cons, if_neg (by rw [hq]; decide), List.filter_nil, List.append_nil]
  exact a
end
section
variable {α β : Type} {f : β → V} {H : Hp} {D : Addr} {xs : List α}
theorem compM_list {i : Nat} {x : α} {y : β} {h : α → β} (hi : xs[i]? = some x) (a : H D = some (.lst (((xs.take i).map h).map f ++ [f y]))) (e : h x = y) : H D = some (.lst (((xs.take (i + 1)).map h).map f)) := by
  rw [a, ← e, take_succ_get hi, List.map_append, List.map_append] <;> rfl
theorem compM_range {i : Nat} {y : β} {h : Nat → β} (a : H D = some (.lst (((List.range i).map h).map f ++ [f y]))) (e : h i = y) : H D = some (.lst (((List.range (i + 1)).map h).map f)) := by
  rw [a, ← e, List.range_succ, List.map_append, List.map_append] <;> rfl
theorem compM_done {n : Nat} {h : List α → List β} (hl : n = xs.length) (a : H D = some (.lst ((h (xs.take n)).map f))) : H D = some (.lst ((h xs).map f)) := by
  rw [hl, List.take_length] at a
  exact a
theorem compM_listF {i : Nat} {x : α} {y : β} {h : α → β} {q : α → Bool} (hi : xs[i]? = some x) (hq : q x = true) (a : H D = some (.lst ((((xs.take i).filter q).map h).map f ++ [f y]))) (e : h x = y) : H D = some (.lst ((((xs.take (i + 1)).filter q).map h).map f)) := by
  rw [a, ← e, take_succ_get hi, List.filter_append, List.filter_cons, if_pos hq, List.map_append, List.map_append] <;> rfl
theorem skipM_list {i : Nat} {x : α} {h : α → β} {q : α → Bool} (hi : xs[i]? = some x) (hq : q x = false) (a : H D = some (.lst ((((xs.take i).filter q).map h).map f))) : H D = some (.lst ((((xs.take (i + 1)).filter q).map h).map f)) := by
  rw [a, take_succ_get hi, List.filter_append, List.filter_cons, if_neg (by rw [hq]; decide), List.filter_nil, List.append_nil]
theorem compM_rangeF {i : Nat} {y : β} {h : Nat → β} {q : Nat → Bool} (hq : q i = true) (a : H D = some (.lst ((((List.range i).filter q).map h).map f ++ [f y]))) (e : h i = y) : H D = some (.lst ((((List.range (i + 1)).filter q).map h).map f)) := by
  rw [a, ← e, List.range_succ, List.filter_append, List.filter_cons, if_pos hq, List.map_append, List.map_append] <;> rfl
theorem skipM_range {i : Nat} {h : Nat → β} {q : Nat → Bool} (hq : q i = false) (a : H D = some (.lst ((((List.range i).filter q).map h).map f))) : H D = some (.lst ((((List.range (i + 1)).filter q).map h).map f)) := by
  rw [a, List.range_succ, List.filter_append, List.filter_cons, if_neg (by rw [hq]; decide), List.filter_nil, List.append_nil]
end
/-! ### more rules -/
section
variable {X : Cx} {K : PySem.W.Frag}
theorem ix_tupK (hK : X.K = K := by rfl) : IxR X (rIxT K) := hK ▸ ix_tup
def rLenLK (K : PySem.W.Frag) : List V → Hp → VK → Prop := fun xs H Q => ∃ (p : Addr) (vs : List V) (n : Nat), xs = [.ref p] ∧ SqL K H p vs ∧ vs.length = n ∧ Q (.int (n : Int)) H
theorem call_lenLK (hK : X.K = K := by rfl) : CallR X (.builtin "len") (rLenLK K) := by
  subst hK
  intro pins s σ H xs us Q I r h
  obtain ⟨p, vs, n, rfl, hs, hn, q⟩ := h
  exact call_len_seq pins s σ H _ us Q I r ⟨p, _, rfl, Or.inl hs, by rw [hn]; exact q⟩
def rListLK (K : PySem.W.Frag) : List V → Hp → VK → Prop := fun xs H Q => ∃ (p : Addr) (vs : List V), xs = [.ref p] ∧ SqL K H p vs ∧ ∀ l, H l = none → Q (.ref l) (upd H l (.lst vs))
theorem call_listLK (hK : X.K = K := by rfl) : CallR X (.type "list") (rListLK K) := by
  subst hK
  intro pins s σ H xs us Q I r h
  obtain ⟨p, vs, rfl, hs, q⟩ := h
  exact call_list_of pins s σ H _ us Q I r ⟨p, _, rfl, Or.inl hs, q⟩
theorem cr_anyK (hc : X.calm = true) (hK : X.K = K := by rfl) : CallR X (.builtin "any") (rAny K) := hK ▸ cr_any hc
theorem cr_allK (hc : X.calm = true) (hK : X.K = K := by rfl) : CallR X (.builtin "all") (rAll K) := hK ▸ cr_all hc
theorem pi_tupK {tg l : Expr} {tl : TE} (hl : PE X l tl) (hK : X.K = K := by rfl) : PI X tg l (iTup K tl) := hK ▸ pi_tup hl
theorem pip {op : Operator} {r : R2} (h : OpR X (inplaceOp op) r) : PIp X op r := fun pins s σ H x y v u Q I rx ry q => h pins s σ H x y v u Q I rx ry q
/-- an item at a place from 0 on, by itself (ahead of o[i] op= e) -/
def rIxP (K : PySem.W.Frag) : R2 := fun x y H Q => ∃ (p : Addr) (xs : List V) (k : Int) (v : V), x = .ref p ∧ y = .int k ∧ SqL K H p xs ∧ 0 ≤ k ∧ k < 2 ^ 62 ∧ atI xs k = some v ∧ Q v H
theorem pget_list (hK : X.K = K := by rfl) : PGet X (rIxP K) := by
  subst hK
  intro pins s σ H o i ov iv Q I ro ri h
  obtain ⟨p, xs, k, v, rfl, rfl, hq, h0, h62, ha, q⟩ := h
  cases ro
  obtain ⟨t, rfl⟩ := ri
  obtain ⟨its, r, pl, hz⟩ := I.list hq
  obtain ⟨j, h1, h2, h3, h4, h5⟩ := atI_get ha
  obtain ⟨w, ew, rw'⟩ := r.get h2
  have hj : k.toNat = j := by
    rw [seqIndex_of h0 h5] at h1
    exact Option.some.inj h1
  exact getItem_listL pl.isList h0 (by omega) (by rw [hj]; simpa using ew) ⟨v, H, I, rw', q⟩
theorem tru_map {α : Type} [DecidableEq α] {f : α → V} {xs : List α} : (!decide (xs = [])) = !(xs.map f).isEmpty := by
  cases xs <;> simp
end
end Vx

namespace Vx
open PySem PySem.Spec PyProof.Rows L2
/-! ### objects -/
section
variable {M : List Addr} {H0 G0 G H H' : Hp} {O : List Addr} {p m : Addr} {o : HO}
theorem gen_obj {x dx : Addr} {o1 o2 : HO} (nx : H x = none) (nd : H dx = none) (ne : dx ≠ x) (h : upd (upd H dx o1) x o2 = H') : Same H H' ∧ H' x = some o2 := by
  subst h
  exact ⟨fun b u e => by rw [upd_ne (ne_of_none e nx), upd_ne (ne_of_none e nd)]; exact e, upd_same⟩
theorem sameX_of {m : Addr} (x : SameXs [m] H H') : SameX m H H' := fun b o e n => x b o e (by simpa using n)
theorem g_ne {a b : Addr} (h : G a = some o) (S : Sep M H0 G0 G H O) (hb : b ∈ O) : a ≠ b := fun z => by
  have := (S.ow b hb).1
  rw [← z, h] at this
  cases this
/-- an object whose making has laid some lists -/
theorem Sep.mutnew (S : Sep M H0 G0 G H O) {L : List Addr} (x : SameXs L H H') (hL : ∀ a ∈ L, a ∈ O) (hs : ∀ a ∈ L, H' a ≠ none) (hn : H p = none) (hp : H' p ≠ none) (h0 : H0 p = none) : Sep M H0 G0 G H' (p :: O) := by
  have S1 := S.mut x hL hs
  refine ⟨S1.base, S1.pm, S1.sG, S1.g0, S1.gn, all_cons ⟨S.gfree hn, hp, .inr h0⟩ S1.ow⟩
theorem Sep.init (S : Sep M H0 G0 G H O) (x : SameX m H H') (hm : m ∈ O) (h : H' m = some o) (L : List Addr) (hL : ∀ a ∈ L, H a = none ∧ H' a ≠ none ∧ H0 a = none) : Sep M H0 G0 G H' (L ++ O) := by
  have S1 := S.mut1 x hm h
  refine ⟨S1.base, S1.pm, S1.sG, S1.g0, S1.gn, fun a ha => ?_⟩
  rcases List.mem_append.mp ha with z | z
  · obtain ⟨h1, h2, h3⟩ := hL a z
    exact ⟨S.gfree h1, h2, .inr h3⟩
  · exact S1.ow a z
end
section
variable {P : Program} {w : World} {K : PySem.W.Frag} {mg : Str → Option Value} {base : Heap}
structure MethIn (K : PySem.W.Frag) (C : Addr) (q m : Str) (st : Stmt) (ps : List Str) : Prop where
  ex : ∃ (f : Addr) (fd : FuncData), Fun K m q st f fd ∧ Meth K C m f ∧ Binds K fd ps []
structure PropIn (K : PySem.W.Frag) (C : Addr) (q m : Str) (st : Stmt) (ps : List Str) : Prop where
  ex : ∃ (r f : Addr) (fd : FuncData), Fun K m q st f fd ∧ PropOf K C m r f ∧ Binds K fd ps []
structure InitIn (K : PySem.W.Frag) (mg : Str → Option Value) (C : Addr) (cn q : Str) (st : Stmt) (ps : List Str) : Prop where
  ex : ∃ (f : Addr) (fd : FuncData), Fun K "__init__" q st f fd ∧ Mk K C f ∧ mg cn = some (.ref C) ∧ Binds K fd ps []
structure MetC (P : Program) (w : World) (K : PySem.W.Frag) (mg : Str → Option Value) (base : Heap) (k : Nat) (C : Addr) (m : Str) (sp : Sp) : Prop where
  ex : ∃ (f : Addr) (fd : FuncData) (ps : List Str), Cls K C ∧ Meth K C m f ∧ FnOk P w K mg base CX0 k f fd ps sp ∧ Binds K fd ps []
structure PropC (P : Program) (w : World) (K : PySem.W.Frag) (mg : Str → Option Value) (base : Heap) (k : Nat) (C : Addr) (m : Str) (sp : Sp) : Prop where
  ex : ∃ (q f : Addr) (fd : FuncData) (ps : List Str), Cls K C ∧ PropOf K C m q f ∧ FnOk P w K mg base CX0 k f fd ps sp ∧ Binds K fd ps []
structure MakC (P : Program) (w : World) (K : PySem.W.Frag) (mg : Str → Option Value) (base : Heap) (k : Nat) (cn : Str) (C : Addr) (sp : Sp) : Prop where
  ex : ∃ (f : Addr) (fd : FuncData) (ps : List Str), Mk K C f ∧ FnOk P w K mg base CX0 k f fd ps sp ∧ mg cn = some (.ref C) ∧ Binds K fd ps []
abbrev Body (P : Program) (w : World) (K : PySem.W.Frag) (mg : Str → Option Value) (base : Heap) (x : Str) (st : Stmt) (N : List Str) (k : Nat) (sp : Sp) : Prop :=
  ∀ (f : Addr) (cdv : Value) (A : Around) (outer : List Env) (s : Shared) (H : Hp) (vs : List V) (Q : VK) (E : XK), Room k (A.deeper (envOfC x (defScope st) s.heap.objs.size f cdv)) → sp vs H Q E →
    ∃ t, PSs (cxOf CX0 P w K mg base N x (defScope st) f cdv A outer s H E).nox (defBody st) t ∧ t { nx := fun _ H' => Q .non H', rt := Q } (start N vs) H
theorem MethIn.ok {C : Addr} {q m : Str} {st : Stmt} {N ps : List Str} {k : Nat} {sp : Sp} (D : MethIn K C q m st ps) (c : Cls K C) (S : FnScope N ps (defScope st)) (len : ∀ vs H Q E, sp vs H Q E → vs.length = ps.length)
    (hbody : Body P w K mg base q st N k sp) : MetC P w K mg base (k + 1) C m sp := by
  obtain ⟨f, fd, F, me, b⟩ := D.ex
  exact ⟨f, fd, ps, c, me, F.ok S len (fun cdv A outer s H vs Q E hr h => hbody f cdv A outer s H vs Q E hr h), b⟩
theorem PropIn.ok {C : Addr} {q m : Str} {st : Stmt} {N ps : List Str} {k : Nat} {sp : Sp} (D : PropIn K C q m st ps) (c : Cls K C) (S : FnScope N ps (defScope st)) (len : ∀ vs H Q E, sp vs H Q E → vs.length = ps.length)
    (hbody : Body P w K mg base q st N k sp) : PropC P w K mg base (k + 1) C m sp := by
  obtain ⟨r, f, fd, F, me, b⟩ := D.ex
  exact ⟨r, f, fd, ps, c, me, F.ok S len (fun cdv A outer s H vs Q E hr h => hbody f cdv A outer s H vs Q E hr h), b⟩
theorem InitIn.ok {C : Addr} {cn q : Str} {st : Stmt} {N ps : List Str} {k : Nat} {sp : Sp} (D : InitIn K mg C cn q st ps) (S : FnScope N ps (defScope st)) (len : ∀ vs H Q E, sp vs H Q E → vs.length = ps.length)
    (hbody : Body P w K mg base q st N k sp) : MakC P w K mg base (k + 1) cn C sp := by
  obtain ⟨f, fd, F, me, hm, b⟩ := D.ex
  exact ⟨f, fd, ps, me, F.ok S len (fun cdv A outer s H vs Q E hr h => hbody f cdv A outer s H vs Q E hr h), hm, b⟩
end
section
variable {X : Cx} {k j : Nat} {C : Addr} {x m : Str} {sp : Sp} {p pos apos : Pos} {e o : Expr} {es : List Expr} {ta : TE} {t : TA}
theorem vx_call0 (c : Cal X.prog X.w X.K X.mg X.base k x sp) (hr : Room j X.A) (hk : k ≤ j) (hg : Gl X x) (hdb : (x == ("__debug__" : Str)) = false := by decide) : PE X (.Call (.Name x p) [] [] pos) (tCall sp [] E0 tNil) := by
  obtain ⟨f, fd, ps, F, hm, kp, b⟩ := c.ex
  exact pe_call0 F (hr.mono hk) hg hm kp b .nil pass0 hdb
theorem vx_make (c : MakC X.prog X.w X.K X.mg X.base k x C sp) (hr : Room j X.A) (hk : k + 1 ≤ j) (hg : Gl X x) (ha : PA X (e :: es) t)
    (hdb : (x == ("__debug__" : Str)) = false := by decide) (he : starEach (e :: es) X.env = (false, eval e X.env) :: starEach es X.env := by rfl) (hpl : (backTo pos (starEach es X.env)).any (·.1) = false := by rfl) :
    PE X (.Call (.Name x p) (e :: es) [] pos) (tMake C sp [] E0 t) := by
  obtain ⟨f, fd, ps, M, F, hm, b⟩ := c.ex
  exact pe_make M F (hr.mono hk) hg hm b .nil pass0 ha hdb he hpl
theorem vx_make0 (c : MakC X.prog X.w X.K X.mg X.base k x C sp) (hr : Room j X.A) (hk : k + 1 ≤ j) (hg : Gl X x) (hdb : (x == ("__debug__" : Str)) = false := by decide) :
    PE X (.Call (.Name x p) [] [] pos) (tMake C sp [] E0 tNil) := by
  obtain ⟨f, fd, ps, M, F, hm, b⟩ := c.ex
  exact pe_make0 M F (hr.mono hk) hg hm b .nil pass0 hdb
theorem vx_meth {pl : Sem Bool} (c : MetC X.prog X.w X.K X.mg X.base k C m sp) (hr : Room j X.A) (hk : k ≤ j) (he : PE X o ta) (ha : PA X (e :: es) t)
    (hst : starEach (e :: es) X.env = (false, eval e X.env) :: starEach es X.env := by rfl) (hpl : (backTo pos (starEach es X.env)).any (·.1) = false := by rfl)
    (ht : eval (.Call (.Attribute o m apos) (e :: es) [] pos) X.env = (do
      let ov ← eval o X.env
      standAt apos.atName
      let (f, first) ← holding [ov] (getMethod ov m pl)
      callWith pos f first (backTo pos (starEach (e :: es) X.env)) (backToKw pos (keywordEach [] X.env))) := by rfl) :
    PE X (.Call (.Attribute o m apos) (e :: es) [] pos) (tMeth C m sp [] E0 ta t) := by
  obtain ⟨f, fd, ps, hc, hm, F, b⟩ := c.ex
  exact pe_meth he hc hm F (hr.mono hk) b .nil pass0 ha hst hpl ht
theorem vx_meth0 {pl : Sem Bool} (c : MetC X.prog X.w X.K X.mg X.base k C m sp) (hr : Room j X.A) (hk : k ≤ j) (he : PE X o ta)
    (ht : eval (.Call (.Attribute o m apos) [] [] pos) X.env = (do
      let ov ← eval o X.env
      standAt apos.atName
      let (f, first) ← holding [ov] (getMethod ov m pl)
      callWith pos f first (backTo pos (starEach [] X.env)) (backToKw pos (keywordEach [] X.env))) := by rfl) :
    PE X (.Call (.Attribute o m apos) [] [] pos) (tMeth C m sp [] E0 ta tNil) := by
  obtain ⟨f, fd, ps, hc, hm, F, b⟩ := c.ex
  exact pe_meth0 he hc hm F (hr.mono hk) b .nil pass0 ht
theorem vx_prop (c : PropC X.prog X.w X.K X.mg X.base k C m sp) (hr : Room j X.A) (hk : k + 1 ≤ j) (he : PE X o ta) (hab : attributeBase o m X.env (eval o X.env) = eval o X.env) : PE X (.Attribute o m pos) (tProp C sp [] E0 ta) := by
  obtain ⟨q, f, fd, ps, hc, hp, F, b⟩ := c.ex
  exact pe_prop he hc hp F (hr.mono hk) b .nil pass0 hab
end
theorem iteBNT {b : Bool} {A B : Prop} (h : b = false) (k : A) : if (!b) = true then A else B := by rw [h]; exact iteT k
theorem iteNN {b : Bool} {A B : Prop} (h : if b = true then A else B) : if (!!b) = true then A else B := by rw [Bool.not_not]; exact h
theorem iteBNF {b : Bool} {A B : Prop} (h : b = true) (k : B) : if (!b) = true then A else B := by rw [h]; exact iteF k
theorem shl_side {i j : Int} (h0 : 0 ≤ j) (h1 : j ≤ 4096) (h2 : -(2 ^ 4096) < i) (h3 : i < 2 ^ 4096) : CShl i j := by
  obtain ⟨k, rfl⟩ := Int.eq_ofNat_of_zero_le h0
  exact shl_ok (n := 4096) (by omega) (by omega)
end Vx

namespace Vx
open PySem PySem.Spec PyProof.Rows L2
section
variable {X : Cx} {K : PySem.W.Frag}
theorem fldK {e : Expr} {f : Str} {pos : Pos} {ta : TE} (he : PE X e ta) (hb : attributeBase e f X.env (eval e X.env) = eval e X.env := by rfl) (hK : X.K = K := by rfl) : PE X (.Attribute e f pos) (tFld K ta f) := hK ▸ pe_fld he hb
theorem pg_tupK {es : List Expr} {k : Nat} {t : TGs} {n : Nat} {pos : Pos} (h : PGs X es t) (hc : X.calm = true := by rfl)
    (hn : (assignEach es X.env).length = n := by rfl) (hst : (assignEach es X.env).findIdx? (·.1) = none := by rfl) (hK : X.K = K := by rfl) : PG X (.Tuple es k pos) (gTup K n t) := hK ▸ pg_tup hc h hn hst
end
end Vx

namespace Vx
open PySem PySem.Spec PyProof.Rows L2
section
variable {α β : Type} {f : α → PyData} {g : β → PyData} {fv : α → V} {gv : β → V} {G : Hp} {vs ws : List V} {xs : List α} {ys : List β}
theorem big1 {n : Nat} (h : n ≤ 1000000) : n ≤ sizeLine := smallE h
theorem cat_len (a : RpAll G vs (xs.map f)) (b : RpAll G ws (ys.map g)) (h : xs.length + ys.length ≤ 1000000) : vs.length + ws.length ≤ sizeLine := by
  rw [a.len, b.len, List.length_map, List.length_map]; exact smallE h
theorem cat_lenM (h : xs.length + ys.length ≤ 1000000) : (xs.map fv).length + (ys.map gv).length ≤ sizeLine := by
  rw [List.length_map, List.length_map]; exact smallE h
theorem rep_len {k : Nat} (a : RpAll G vs (xs.map f)) (h : xs.length * k ≤ 1000000) : vs.length * k ≤ sizeLine := by
  rw [a.len, List.length_map]; exact smallE h
theorem rep_lenM {k : Nat} (h : xs.length * k ≤ 1000000) : (xs.map fv).length * k ≤ sizeLine := by
  rw [List.length_map]; exact smallE h
theorem app_len (a : RpAll G vs (xs.map f)) (h : xs.length ≤ 1000000) : vs.length < sizeLine := by
  rw [a.len, List.length_map]; exact small h
theorem app_lenM (h : xs.length ≤ 1000000) : (xs.map fv).length < sizeLine := by
  rw [List.length_map]; exact small h
theorem cutL_len {α : Type} (xs : List α) (lo hi : Option Int) : (cutL xs lo hi).length ≤ xs.length := by
  unfold cutL
  rw [List.length_take, List.length_drop]
  omega
theorem repL_len {α : Type} (xs : List α) (k : Int) : (repL xs k).length = k.toNat * xs.length := by
  unfold repL
  simp
end
end Vx
/-! # third part: what a def computes, as a plain function with refusals -/
namespace Vx
open PySem PySem.Spec PyProof.Rows L2
inductive Rx (α : Type) where
  | ok (a : α)
  | er (e : Nat)
  | bad
def Rx.bind {α β : Type} (m : Rx α) (f : α → Rx β) : Rx β :=
  match m with
  | .ok a => f a
  | .er e => .er e
  | .bad => .bad
/-- what is wanted of an outcome -/
def cW {α : Type} (m : Rx α) (K : α → Prop) (E : Nat → Prop) : Prop :=
  match m with
  | .ok a => K a
  | .er e => E e
  | .bad => False
def grd {α : Type} (p : Prop) [Decidable p] (m : Rx α) : Rx α := if p then m else .bad
/-- within a comprehension nothing may be raised -/
def noEr {α : Type} (m : Rx α) : Rx α :=
  match m with
  | .ok a => .ok a
  | _ => .bad
/-- what the clause does not name may not come -/
def tryR {α β : Type} (m : Rx α) (cs : List Nat) (f : α → Rx β) (h : Nat → Rx β) : Rx β :=
  match m with
  | .ok a => f a
  | .er e => if e ∈ cs then h e else .bad
  | .bad => .bad
def bnd {α β : Type} (a : α) (f : α → Rx β) : Rx β := f a
inductive Lp (σ ρ : Type) where
  | go (s : σ)
  | bk (s : σ)
  | rt (r : ρ)
def Lp.aft {σ ρ τ : Type} (l : Lp σ ρ) (kr : ρ → Rx τ) (k : σ → Rx τ) : Rx τ :=
  match l with
  | .go s => k s
  | .bk s => k s
  | .rt r => kr r
def forS {σ α : Type} : List α → σ → (σ → α → Rx σ) → Rx σ
  | [], s, _ => .ok s
  | x :: r, s, f => (f s x).bind fun s' => forS r s' f
def forR {σ α ρ : Type} : List α → σ → (σ → α → Rx (Lp σ ρ)) → Rx (Lp σ ρ)
  | [], s, _ => .ok (.go s)
  | x :: r, s, f => (f s x).bind fun l =>
    match l with
    | .go s' => forR r s' f
    | .bk s' => .ok (.go s')
    | .rt v => .ok (.rt v)
def whileR {σ ρ : Type} : Nat → σ → (σ → Rx (Lp σ ρ)) → Rx (Lp σ ρ)
  | 0, _, _ => .bad
  | n + 1, s, f => (f s).bind fun l =>
    match l with
    | .go s' => whileR n s' f
    | .bk s' => .ok (.go s')
    | .rt v => .ok (.rt v)
def mapA {α β : Type} : List α → List β → (α → Rx β) → Rx (List β)
  | [], acc, _ => .ok acc
  | x :: r, acc, f => grd (acc.length ≤ 1000000) ((f x).bind fun y => mapA r (acc ++ [y]) f)
def mapF {α β : Type} : List α → List β → (α → Rx (Option β)) → Rx (List β)
  | [], acc, _ => .ok acc
  | x :: r, acc, f => grd (acc.length ≤ 1000000) ((f x).bind fun y =>
    match y with
    | some z => mapF r (acc ++ [z]) f
    | none => mapF r acc f)
section
variable {α β γ σ ρ τ : Type} {K : α → Prop} {E : Nat → Prop}
theorem cW_gen {m : Rx α} (h : cW m K E) : ∃ (K' : α → Prop) (E' : Nat → Prop), (∀ v, K' v → K v) ∧ (∀ e, E' e → E e) ∧ cW m K' E' := ⟨K, E, fun _ x => x, fun _ x => x, h⟩
theorem cW_grd {p : Prop} {dp : Decidable p} {m : Rx α} (h : cW (grd p m) K E) : p ∧ cW m K E := by
  unfold grd at h
  split at h
  · exact ⟨‹p›, h⟩
  · exact h.elim
theorem cW_pos {p : Prop} {dp : Decidable p} {a b : Rx α} (c : p) (h : cW (if p then a else b) K E) : cW a K E := by rwa [if_pos c] at h
theorem cW_neg {p : Prop} {dp : Decidable p} {a b : Rx α} (c : ¬ p) (h : cW (if p then a else b) K E) : cW b K E := by rwa [if_neg c] at h
theorem cW_call {m : Rx β} {f : β → Rx α} {K2 : β → Prop} {E2 : Nat → Prop} (h : cW (m.bind f) K E) (ho : ∀ v, cW (f v) K E → K2 v) (he : ∀ e, E e → E2 e) : cW m K2 E2 := by
  cases m with
  | ok a => exact ho a h
  | er e => exact he e h
  | bad => exact h
theorem cW_push {m : Rx β} {f : β → Rx α} (h : cW (m.bind f) K E) : ∃ K2 : β → Prop, (∀ v, K2 v → cW (f v) K E) ∧ cW m K2 E := ⟨fun v => cW (f v) K E, fun _ x => x, cW_call h (fun _ x => x) fun _ x => x⟩
theorem cW_name {m : Rx α} (h : cW m K E) : ∃ K' : α → Prop, (∀ v, K' v → K v) ∧ cW m K' E := ⟨K, fun _ x => x, h⟩
theorem cW_noEr {m : Rx α} (h : cW (noEr m) K E) : cW m K (fun _ => False) := by
  cases m with
  | ok a => exact h
  | er e => exact h
  | bad => exact h
theorem cW_try {m : Rx β} {cs : List Nat} {f : β → Rx α} {g : Nat → Rx α} {K2 : β → Prop} {E2 : Nat → Prop} (h : cW (tryR m cs f g) K E) (ho : ∀ v, cW (f v) K E → K2 v) (hc : ∀ e, e ∈ cs → cW (g e) K E → E2 e) : cW m K2 E2 := by
  cases m with
  | ok a => exact ho a h
  | er e =>
    have h2 : cW (if e ∈ cs then g e else .bad) K E := h
    by_cases q : e ∈ cs
    · exact hc e q (cW_pos q h2)
    · exact (cW_neg q h2).elim
  | bad => exact h
theorem cW_bnd {a : β} {f : β → Rx α} (h : cW (bnd a f) K E) : cW (f a) K E := h
theorem cW_ok {a : α} (h : cW (.ok a) K E) : K a := h
theorem cW_er {e : Nat} (h : cW (.er e : Rx α) K E) : E e := h
theorem cW_negB {b : Bool} {x y : Rx α} (c : b = false) (h : cW (if b = true then x else y) K E) : cW y K E := cW_neg (by rw [c]; decide) h
theorem cW_forS {xs : List β} {i : Nat} {x : β} {s : α} {f : α → β → Rx α} (hx : xs[i]? = some x) (h : cW (forS (xs.drop i) s f) K E) : cW (f s x) (fun s' => cW (forS (xs.drop (i + 1)) s' f) K E) E := by
  rw [List.drop_eq_getElem?_toList_append, hx] at h
  exact cW_call h (fun _ z => z) fun _ z => z
theorem cW_forS0 {xs : List β} {n : Nat} {s : α} {f : α → β → Rx α} (hn : n = xs.length) (h : cW (forS (xs.drop n) s f) K E) : K s := by
  subst hn
  rw [List.drop_length] at h
  exact h
theorem cW_forR {K : Lp σ ρ → Prop} {xs : List β} {i : Nat} {x : β} {s : σ} {f : σ → β → Rx (Lp σ ρ)} (hx : xs[i]? = some x) (h : cW (forR (xs.drop i) s f) K E) :
    cW (f s x) (fun l => match l with | .go s' => cW (forR (xs.drop (i + 1)) s' f) K E | .bk s' => K (.go s') | .rt v => K (.rt v)) E := by
  rw [List.drop_eq_getElem?_toList_append, hx] at h
  refine cW_call h (fun l z => ?_) fun _ z => z
  cases l with
  | go s' => exact z
  | bk s' => exact z
  | rt v => exact z
theorem cW_forR0 {K : Lp σ ρ → Prop} {xs : List β} {n : Nat} {s : σ} {f : σ → β → Rx (Lp σ ρ)} (hn : n = xs.length) (h : cW (forR (xs.drop n) s f) K E) : K (.go s) := by
  subst hn
  rw [List.drop_length] at h
  exact h
theorem cW_whileR {K : Lp σ ρ → Prop} {m : Nat} {s : σ} {f : σ → Rx (Lp σ ρ)} (h : cW (whileR m s f) K E) :
    ∃ n, m = n + 1 ∧ cW (f s) (fun l => match l with | .go s' => cW (whileR n s' f) K E | .bk s' => K (.go s') | .rt v => K (.rt v)) E := by
  cases m with
  | zero => exact h.elim
  | succ n =>
    refine ⟨n, rfl, cW_call h (fun l z => ?_) fun _ z => z⟩
    cases l with
    | go s' => exact z
    | bk s' => exact z
    | rt v => exact z
theorem cW_mapA {K : List α → Prop} {xs : List β} {acc : List α} {i : Nat} {x : β} {f : β → Rx α} (hx : xs[i]? = some x) (h : cW (mapA (xs.drop i) acc f) K E) :
    acc.length ≤ 1000000 ∧ cW (f x) (fun y => cW (mapA (xs.drop (i + 1)) (acc ++ [y]) f) K E) E := by
  rw [List.drop_eq_getElem?_toList_append, hx] at h
  obtain ⟨z, h⟩ := cW_grd h
  exact ⟨z, cW_call h (fun _ z => z) fun _ z => z⟩
theorem cW_mapA0 {K : List α → Prop} {xs : List β} {acc : List α} {n : Nat} {f : β → Rx α} (hn : n = xs.length) (h : cW (mapA (xs.drop n) acc f) K E) : K acc := by
  subst hn
  rw [List.drop_length] at h
  exact h
theorem cW_mapF {K : List α → Prop} {xs : List β} {acc : List α} {i : Nat} {x : β} {f : β → Rx (Option α)} (hx : xs[i]? = some x) (h : cW (mapF (xs.drop i) acc f) K E) :
    acc.length ≤ 1000000 ∧ cW (f x) (fun y => match y with | some z => cW (mapF (xs.drop (i + 1)) (acc ++ [z]) f) K E | none => cW (mapF (xs.drop (i + 1)) acc f) K E) E := by
  rw [List.drop_eq_getElem?_toList_append, hx] at h
  obtain ⟨z, h⟩ := cW_grd h
  refine ⟨z, cW_call h (fun y z => ?_) fun _ z => z⟩
  cases y with
  | none => exact z
  | some w => exact z
theorem cW_mapF0 {K : List α → Prop} {xs : List β} {acc : List α} {n : Nat} {f : β → Rx (Option α)} (hn : n = xs.length) (h : cW (mapF (xs.drop n) acc f) K E) : K acc := by
  subst hn
  rw [List.drop_length] at h
  exact h
end
/-- the numbers of a range -/
def rng (lo : Int) (n : Nat) : List Int := (List.range n).map fun (j : Nat) => lo + (j : Int)
theorem rng_get {lo : Int} {n i : Nat} (h : i < n) : (rng lo n)[i]? = some (lo + (i : Int)) := by
  unfold rng
  rw [List.getElem?_map, List.getElem?_range h] <;> rfl
theorem rng_len (lo : Int) (n : Nat) : (rng lo n).length = n := by
  unfold rng
  rw [List.length_map, List.length_range]

/-! ### calls that may raise -/
/-- what a call with n values and keywords ks gives the parameters -/
structure Bnd (K : PySem.W.Frag) (fd : FuncData) (ps : List Str) (n : Nat) (ks : List Str) (g : List V → List V → List V) : Prop where
  to : ∀ (s : Shared) (us ws : List Value) (vs zs : List V), K.In s.heap → vs.length = n → zs.length = ks.length → Vals vs us → Vals zs ws → ∃ vv : List Value, BindsTo s fd ⟨us, ks.zip ws⟩ (ps.zip vv) ∧ Vals (g vs zs) vv
theorem Bnd.of_kbn {K : PySem.W.Frag} {fd : FuncData} {ps ks : List Str} {n : Nat} {g : List Value → List Value → List Value} {gV : List V → List V → List V} (b : KBn K fd ps n ks g gV) : Bnd K fd ps n ks gV :=
  ⟨fun s us ws vs zs X l1 l2 r rz => ⟨g us ws, b.to s us ws X (r.length.symm.trans l1) (rz.length.symm.trans l2), b.rel r rz⟩⟩
theorem Bnd.all {K : PySem.W.Frag} {fd : FuncData} {ps ks : List Str} {n : Nat} {g : List V → List V → List V} (h : ∀ (us ws : List Value) (vs zs : List V), vs.length = n → zs.length = ks.length → Vals vs us → Vals zs ws →
    ∃ vv : List Value, bindArgs fd ⟨us, ks.zip ws⟩ = pure (ps.zip vv) ∧ Vals (g vs zs) vv) : Bnd K fd ps n ks g :=
  ⟨fun s us ws vs zs _ l1 l2 r rz => by
    obtain ⟨vv, e, q⟩ := h us ws vs zs l1 l2 r rz
    exact ⟨vv, BindsTo.of_eq e, q⟩⟩
abbrev Pat := Nat × List Str × (List V → List V → List V)
def Bnd1 (K : PySem.W.Frag) (fd : FuncData) (ps : List Str) (p : Pat) : Prop := Bnd K fd ps p.1 p.2.1 p.2.2
section
variable {P : Program} {w : World} {K : PySem.W.Frag} {mg : Str → Option Value} {base : Heap}
/-- a def of the top, with the ways it is called -/
structure DefX (K : PySem.W.Frag) (mg : Str → Option Value) (x : Str) (st : Stmt) (ps : List Str) (pats : List Pat) : Prop where
  ex : ∃ (f : Addr) (fd : FuncData) (dvs : List V) (kws : List (Str × V)), FunD K x x (defArgs st) (defBody st) (defScope st) dvs kws f fd ∧ mg x = some (.ref f) ∧ ∀ p ∈ pats, Bnd1 K fd ps p
structure CalX (P : Program) (w : World) (K : PySem.W.Frag) (mg : Str → Option Value) (base : Heap) (k : Nat) (x : Str) (sp : Sp) (pats : List Pat) : Prop where
  ex : ∃ (f : Addr) (fd : FuncData) (ps : List Str), FnOk P w K mg base (L2.CX P w) k f fd ps sp ∧ mg x = some (.ref f) ∧ PySem.W.keepIn K (.ref f) = true ∧ ∀ p ∈ pats, Bnd1 K fd ps p
abbrev BodyX (P : Program) (w : World) (K : PySem.W.Frag) (mg : Str → Option Value) (base : Heap) (x : Str) (st : Stmt) (N : List Str) (k : Nat) (sp : Sp) : Prop :=
  ∀ (f : Addr) (cdv : Value) (A : Around) (outer : List Env) (s : Shared) (H : Hp) (vs : List V) (Q : VK) (E : XK), Room k (A.deeper (envOfC x (defScope st) s.heap.objs.size f cdv)) → sp vs H Q E →
    ∃ t, PSs (cxOf (L2.CX P w) P w K mg base N x (defScope st) f cdv A outer s H E) (defBody st) t ∧ t { nx := fun _ H' => Q .non H', rt := Q } (start N vs) H
theorem DefX.ok {x : Str} {st : Stmt} {N ps : List Str} {pats : List Pat} {k : Nat} {sp : Sp} (D : DefX K mg x st ps pats) (S : FnScope N ps (defScope st)) (len : ∀ vs H Q E, sp vs H Q E → vs.length = ps.length)
    (hbody : BodyX P w K mg base x st N k sp) : CalX P w K mg base (k + 1) x sp pats := by
  obtain ⟨f, fd, dvs, kws, F, hm, b⟩ := D.ex
  exact ⟨f, fd, ps, F.ok S len (fun cdv A outer s H vs Q E hr h => hbody f cdv A outer s H vs Q E hr h), hm, F.kp, b⟩
end
section
variable {X : Cx} {k j n : Nat} {f : Addr} {fd : FuncData} {ps ks : List Str} {g : List V → List V → List V} {sp : Sp} {x : Str} {pos p : Pos} {e : Expr} {es : List Expr} {kws : List Keyword} {t tk : TA} {W : WX}
theorem run_X {pins : List (Addr × Obj)} {σ : L2.St} {H : Hp} {s : Shared} {Q : VK} {us ws : List Value} {vs zs : List V} (F : FnOk X.prog X.w X.K X.mg X.base (L2.CX X.prog X.w) k f fd ps sp) (hr : Room k X.A) (hb : Bnd X.K fd ps n ks g) (tkW : Takes X W)
    (I : Inv X pins σ H s) (r : Vals vs us) (rz : Vals zs ws) (l1 : vs.length = n) (l2 : zs.length = ks.length) (h : sp (g vs zs) H Q (WE W σ)) :
    wpAny (model X.prog X.w) X.A (call (.ref f) us (ks.zip ws)) (EP X pins σ Q) X.xe s := by
  obtain ⟨vv, b, r2⟩ := hb.to s us ws vs zs I.kIn l1 l2 r rz
  refine wpAny_call (codeAny_mono (F.run X.A X.stack s H ⟨us, ks.zip ws⟩ vv (g vs zs) Q (WE W σ) hr I.env0 b r2 h) fun rr s' hq => ?_)
  cases rr with
  | error er => exact passAt tkW σ pins H s er s' I hq
  | ok fl =>
    cases fl with
    | ret u => exact I.after hq
    | next => exact hq.elim
    | brk => exact hq.elim
    | cont => exact hq.elim
/-- f(e, .., k = v, ..) -/
def tCallX (n m : Nat) (sp : Sp) (g : List V → List V → List V) (W : WX) (t tk : TA) : TE := fun σ H Q => t σ H fun vs H1 => tk σ H1 fun zs H2 => vs.length = n ∧ zs.length = m ∧ sp (g vs zs) H2 Q (WE W σ)
theorem vx_callX {pats : List Pat} (c : CalX X.prog X.w X.K X.mg X.base k x sp pats) (pt : Pat) (hpt : pt ∈ pats) (hr : Room j X.A) (hk : k ≤ j) (tkW : Takes X W) (hg : Gl X x) (ha : PA X (e :: es) t) (hkw : PK X kws tk)
    (hall : (backToKw pos (keywordEach kws X.env)).all (·.1.isSome) = true := by rfl) (hks : (backToKw pos (keywordEach kws X.env)).filterMap (·.1) = pt.2.1 := by rfl)
    (hdb : (x == ("__debug__" : Str)) = false := by decide) (he : starEach (e :: es) X.env = (false, eval e X.env) :: starEach es X.env := by rfl)
    (hpl : ((backTo pos (starEach (e :: es) X.env)).any (·.1) || (backToKw pos (keywordEach kws X.env)).any (·.1.isNone)) = false := by rfl) :
    PE X (.Call (.Name x p) (e :: es) kws pos) (tCallX pt.1 pt.2.1.length sp pt.2.2 W t tk) := by
  obtain ⟨f, fd, ps, F, hm, kp, b⟩ := c.ex
  refine ⟨fun pins s σ H Q I h => ?_⟩
  refine wpAny_Call_Name_kw (ld_glob I hg hm ?_ hdb)
  refine PySem.W.callWith_KW (h₀ := X.base) I.ok.mod.kin kp hall (thn (ha.run pos pins s σ H _ I h) fun us s1 ⟨vs, H1, I1, r, q⟩ => ?_) hpl he
  refine thn (hkw.run pos pins s1 σ H1 _ I1 q) fun ws s2 ⟨zs, H2, I2, rz, l1, l2, q2⟩ => ⟨I2.kIn, ?_⟩
  rw [hks]
  exact run_X F (hr.mono hk) (b pt hpt) tkW I2 r rz l1 l2 q2
theorem vx_callX0 {pats : List Pat} (c : CalX X.prog X.w X.K X.mg X.base k x sp pats) (pt : Pat) (hpt : pt ∈ pats) (hr : Room j X.A) (hk : k ≤ j) (tkW : Takes X W) (hg : Gl X x) (hks : pt.2.1 = [] := by rfl)
    (hdb : (x == ("__debug__" : Str)) = false := by decide) : PE X (.Call (.Name x p) [] [] pos) (tCallX pt.1 pt.2.1.length sp pt.2.2 W tNil tNil) := by
  obtain ⟨f, fd, ps, F, hm, kp, b⟩ := c.ex
  refine ⟨fun pins s σ H Q I h => ?_⟩
  refine wpAny_Call_Name_kw (ld_glob I hg hm ?_ hdb)
  obtain ⟨l1, l2, q2⟩ := h
  have hz := run_X (us := []) (ws := []) F (hr.mono hk) (b pt hpt) tkW I .nil .nil l1 l2 q2
  rw [hks] at hz
  exact PySem.W.callWith_K0 I.kIn kp hz
end
/-! ### borrowed things -/
theorem Sep.bM {M : List Addr} {H0 G0 G H : Hp} {O : List (Addr)} (S : Sep M H0 G0 G H O) : Same (hideL M H0) H := fun b o e => by
  by_cases h : b ∈ M
  · rw [hideL_in h] at e
    cases e
  · rw [hideL_out h] at e
    exact S.base b o e h
theorem b_ne {M : List Addr} {H0 G0 G H : Hp} {O : List Addr} {a b : Addr} {o : HO} (h : (hideL M H0) a = some o) (S : Sep M H0 G0 G H O) (hb : b ∈ O) : a ≠ b := fun z => by
  subst z
  rcases (S.ow a hb).2.2 with q | q
  · rw [hideL_in q] at h
    cases h
  · by_cases hM : a ∈ M
    · rw [hideL_in hM] at h
      cases h
    · rw [hideL_out hM, q] at h
      cases h
theorem hide0 {H : Hp} : hideL [] H = H := by
  funext b
  unfold hideL
  rw [if_neg List.not_mem_nil]
theorem hide_nil {H : Hp} {a : Addr} {o : HO} (h : H a = some o) : (hideL [] H) a = some o := by
  rw [hide0]
  exact h
theorem Rp.hide_nil {H : Hp} {v : V} {d : PyData} (h : Rp H v d) : Rp (hideL [] H) v d := by
  rw [hide0]
  exact h
theorem Sep.startM {M : List Addr} {G H : Hp} (e : Same G H) (hM : ∀ a ∈ M, H a ≠ none) (hG : ∀ a ∈ M, G a = none) : Sep M H G G H M :=
  ⟨fun _ _ e _ => e, hM, e, Same.refl _, fun _ _ e => e, fun a ha => ⟨hG a ha, hM a ha, .inl ha⟩⟩
theorem Sep.gno {M : List Addr} {H0 G0 G H : Hp} {O L : List Addr} (S : Sep M H0 G0 G H O) (h : ∀ a ∈ L, a ∈ O) : ∀ a ∈ L, G a = none := fun a ha => (S.ow a (h a ha)).1
theorem RpAll.ixD {α : Type} [Inhabited α] {f : α → PyData} {H : Hp} {vs : List V} {xs : List α} {k : Int} (r : RpAll H vs (xs.map f)) (h : -(xs.length : Int) ≤ k ∧ k < xs.length) : ∃ v, atI vs k = some v ∧ Rp H v (f (itD xs k)) := by
  obtain ⟨v, x, h1, h2, h3⟩ := RpAll.ix r h
  refine ⟨v, h1, ?_⟩
  unfold itD
  rw [h2]
  exact h3
theorem tru_all {α : Type} [DecidableEq α] {f : α → PyData} {H : Hp} {vs : List V} {xs : List α} (r : RpAll H vs (xs.map f)) : (!decide (xs = [])) = !vs.isEmpty := by
  have h := r.len
  rw [List.length_map] at h
  cases xs <;> cases vs <;> simp_all
theorem ix_nn {α : Type} {xs : List α} {k : Int} (h0 : 0 ≤ k) (h1 : k < xs.length) : -(xs.length : Int) ≤ k ∧ k < xs.length := ⟨by omega, h1⟩
theorem all_nilQ {α : Type} {P : α → Prop} : ∀ x ∈ ([] : List α), P x := fun x h => by cases h
theorem all_consQ {α : Type} {P : α → Prop} {a : α} {l : List α} (h : P a) (t : ∀ x ∈ l, P x) : ∀ x ∈ a :: l, P x := fun x hx => by
  rcases List.mem_cons.mp hx with rfl | hx
  · exact h
  · exact t x hx
theorem mem_one {a b : Nat} (h : a ∈ [b]) : a = b := by simpa using h
theorem mem_cons2 {a b : Nat} {l : List Nat} (h : a ∈ b :: l) : a = b ∨ a ∈ l := List.mem_cons.mp h
theorem len0 {α : Type} {l : List α} (h : l.length = 0) : l = [] := List.length_eq_zero_iff.mp h
theorem len1 {α : Type} {l : List α} (h : l.length = 1) : ∃ a, l = [a] := List.length_eq_one_iff.mp h
theorem len_s {α : Type} {l : List α} {n : Nat} (h : l.length = n + 1) : ∃ a r, l = a :: r ∧ r.length = n := by
  cases l with
  | nil => cases h
  | cons a r => exact ⟨a, r, rfl, Nat.succ.inj h⟩
theorem len2 {α : Type} {l : List α} (h : l.length = 2) : ∃ a b, l = [a, b] := by
  obtain ⟨a, r, rfl, h2⟩ := len_s h
  obtain ⟨b, rfl⟩ := len1 h2
  exact ⟨a, b, rfl⟩
theorem len3 {α : Type} {l : List α} (h : l.length = 3) : ∃ a b c, l = [a, b, c] := by
  obtain ⟨a, r, rfl, h2⟩ := len_s h
  obtain ⟨b, c, rfl⟩ := len2 h2
  exact ⟨a, b, c, rfl⟩
theorem len4 {α : Type} {l : List α} (h : l.length = 4) : ∃ a b c d, l = [a, b, c, d] := by
  obtain ⟨a, r, rfl, h2⟩ := len_s h
  obtain ⟨b, c, d, rfl⟩ := len3 h2
  exact ⟨a, b, c, d, rfl⟩
theorem len5 {α : Type} {l : List α} (h : l.length = 5) : ∃ a b c d e, l = [a, b, c, d, e] := by
  obtain ⟨a, r, rfl, h2⟩ := len_s h
  obtain ⟨b, c, d, e, rfl⟩ := len4 h2
  exact ⟨a, b, c, d, e, rfl⟩
theorem len6 {α : Type} {l : List α} (h : l.length = 6) : ∃ a b c d e f, l = [a, b, c, d, e, f] := by
  obtain ⟨a, r, rfl, h2⟩ := len_s h
  obtain ⟨b, c, d, e, f, rfl⟩ := len5 h2
  exact ⟨a, b, c, d, e, f, rfl⟩
theorem len7 {α : Type} {l : List α} (h : l.length = 7) : ∃ a b c d e f g, l = [a, b, c, d, e, f, g] := by
  obtain ⟨a, r, rfl, h2⟩ := len_s h
  obtain ⟨b, c, d, e, f, g, rfl⟩ := len6 h2
  exact ⟨a, b, c, d, e, f, g, rfl⟩
def rLenTK (K : PySem.W.Frag) : List V → Hp → VK → Prop := fun xs H Q => ∃ (p : Addr) (vs : List V) (n : Nat), xs = [.ref p] ∧ SqT K H p vs ∧ vs.length = n ∧ Q (.int (n : Int)) H
theorem call_lenTK {X : Cx} {K : PySem.W.Frag} (hK : X.K = K := by rfl) : CallR X (.builtin "len") (rLenTK K) := by
  subst hK
  intro pins s σ H xs us Q I r h
  obtain ⟨p, vs, n, rfl, hs, hn, q⟩ := h
  exact call_len_seq pins s σ H _ us Q I r ⟨p, _, rfl, Or.inr hs, by rw [hn]; exact q⟩
theorem exm_mk {K : PySem.W.Frag} {S C : Addr} (h1 : PySem.W.subIn K (.ref C) (.type "BaseException") = some true) (h2 : PySem.W.isClsIn K C = true) (h3 : PySem.W.typeIn K (.ref C) = some (.type "type")) (h4 : PySem.W.subIn K (.ref S) (.ref C) = some true) :
    PySem.W.exmOne K (.ref S) (.ref C) = some true := by
  unfold PySem.W.isClsIn at h2
  unfold PySem.W.exmOne
  unfold PySem.W.kitCls
  simp only [h1, h2, h3, h4, beq_self_eq_true, Bool.and_self, if_true]
theorem kit_mk {K : PySem.W.Frag} {S C : Addr} (h2 : PySem.W.isClsIn K C = true) (h3 : PySem.W.typeIn K (.ref C) = some (.type "type")) (h4 : PySem.W.subIn K (.ref S) (.ref C) = some true) :
    PySem.W.kitOne K (.ref S) (.ref C) = some true := by
  unfold PySem.W.isClsIn at h2
  unfold PySem.W.kitOne
  split
  · rfl
  · unfold PySem.W.kitCls
    simp only [h2, h3, h4, beq_self_eq_true, Bool.and_self, if_true]
/-- isinstance(e, C) of the exception in hand -/
def rIsX (K : PySem.W.Frag) (a : Addr) (cls : Value) (d : Option Addr) : List V → Hp → VK → Prop := fun xs H Q => ∃ (D C : Addr) (b : Bool), cls = .ref D ∧ d = none ∧ ExcC K D ∧ xs = [.ref a, .ref C] ∧ PySem.W.kitOne K (.ref D) (.ref C) = some b ∧ Q (.bl b) H
theorem call_isX {X : Cx} {K : PySem.W.Frag} {a : Addr} {cls : Value} {d : Option Addr} {oe : Obj} {pn : List (Addr × Obj)} (hz : Zc cls d oe) (hf : ∃ vs, oe.data = .fields vs) (hK : X.K = K := by rfl) : CallR (X.suite a ((a, oe) :: pn)) (.builtin "isinstance") (rIsX K a cls d) := by
  subst hK
  intro pins s σ H xs us Q I r h
  obtain ⟨D, C, b, rfl, rfl, c, rfl, e, q⟩ := h
  exact call_isE c hz hf pins s σ H _ us Q I r ⟨_, _, b, rfl, fun u z => z, e, q⟩
/-! ### unpacking a list -/
section
variable {X : Cx} {K : PySem.W.Frag} {pos : Pos}
theorem pg_seqK {es : List Expr} {k : Nat} {t : TGs} {n : Nat} (h : PGs X es t) (hc : X.calm = true := by rfl) (hK : X.K = K := by rfl)
    (hn : (assignEach es X.env).length = n := by rfl) (hst : (assignEach es X.env).findIdx? (·.1) = none := by rfl) : PG X (.Tuple es k pos) (gLst K n t) := hK ▸ pg_lst hc h hn hst
end
theorem SqL.cast {K : PySem.W.Frag} {H : Hp} {a : Addr} {xs ys : List V} (h : SqL K H a xs) (e : xs = ys) : SqL K H a ys := e ▸ h
section
variable {α : Type} [Inhabited α] {f : α → V}
theorem unp2 {xs : List α} (h : xs.length = 2) : xs.map f = [f (itD xs 0), f (itD xs 1)] := by
  obtain ⟨a, b, rfl⟩ := len2 h
  rfl
theorem unp3 {xs : List α} (h : xs.length = 3) : xs.map f = [f (itD xs 0), f (itD xs 1), f (itD xs 2)] := by
  obtain ⟨a, b, c, rfl⟩ := len3 h
  rfl
theorem unp4 {xs : List α} (h : xs.length = 4) : xs.map f = [f (itD xs 0), f (itD xs 1), f (itD xs 2), f (itD xs 3)] := by
  obtain ⟨a, b, c, d, rfl⟩ := len4 h
  rfl
theorem unp6 {xs : List α} (h : xs.length = 6) : xs.map f = [f (itD xs 0), f (itD xs 1), f (itD xs 2), f (itD xs 3), f (itD xs 4), f (itD xs 5)] := by
  obtain ⟨a, b, c, d, e, g, rfl⟩ := len6 h
  rfl
theorem unp8 {xs : List α} (h : xs.length = 8) : xs.map f = [f (itD xs 0), f (itD xs 1), f (itD xs 2), f (itD xs 3), f (itD xs 4), f (itD xs 5), f (itD xs 6), f (itD xs 7)] := by
  obtain ⟨a, r, rfl, h2⟩ := len_s h
  obtain ⟨b, c, d, e, g, i, j, rfl⟩ := len7 h2
  rfl
end
/-! ### classes -/
section
variable {P : Program} {w : World} {K : PySem.W.Frag} {mg : Str → Option Value} {base : Heap}
structure MethX (K : PySem.W.Frag) (C : Addr) (q m : Str) (st : Stmt) (ps : List Str) (pats : List Pat) : Prop where
  ex : ∃ (f : Addr) (fd : FuncData) (dvs : List V) (kws : List (Str × V)), FunD K m q (defArgs st) (defBody st) (defScope st) dvs kws f fd ∧ Meth K C m f ∧ ∀ p ∈ pats, Bnd1 K fd ps p
structure InitX (K : PySem.W.Frag) (mg : Str → Option Value) (C : Addr) (cn q : Str) (st : Stmt) (ps : List Str) (pats : List Pat) : Prop where
  ex : ∃ (f : Addr) (fd : FuncData) (dvs : List V) (kws : List (Str × V)), FunD K "__init__" q (defArgs st) (defBody st) (defScope st) dvs kws f fd ∧ Mk K C f ∧ mg cn = some (.ref C) ∧ ∀ p ∈ pats, Bnd1 K fd ps p
structure PropX (K : PySem.W.Frag) (C : Addr) (q m : Str) (st : Stmt) (ps : List Str) (pats : List Pat) : Prop where
  ex : ∃ (r f : Addr) (fd : FuncData) (dvs : List V) (kws : List (Str × V)), FunD K m q (defArgs st) (defBody st) (defScope st) dvs kws f fd ∧ PropOf K C m r f ∧ Binds K fd ps []
structure MetX (P : Program) (w : World) (K : PySem.W.Frag) (mg : Str → Option Value) (base : Heap) (k : Nat) (C : Addr) (m : Str) (sp : Sp) (pats : List Pat) : Prop where
  ex : ∃ (f : Addr) (fd : FuncData) (ps : List Str), Cls K C ∧ Meth K C m f ∧ FnOk P w K mg base (L2.CX P w) k f fd ps sp ∧ ∀ p ∈ pats, Bnd1 K fd ps p
structure PropY (P : Program) (w : World) (K : PySem.W.Frag) (mg : Str → Option Value) (base : Heap) (k : Nat) (C : Addr) (m : Str) (sp : Sp) (pats : List Pat) : Prop where
  ex : ∃ (q f : Addr) (fd : FuncData) (ps : List Str), Cls K C ∧ PropOf K C m q f ∧ FnOk P w K mg base (L2.CX P w) k f fd ps sp ∧ Binds K fd ps []
structure MakX (P : Program) (w : World) (K : PySem.W.Frag) (mg : Str → Option Value) (base : Heap) (k : Nat) (cn : Str) (C : Addr) (sp : Sp) (pats : List Pat) : Prop where
  ex : ∃ (f : Addr) (fd : FuncData) (ps : List Str), Mk K C f ∧ FnOk P w K mg base (L2.CX P w) k f fd ps sp ∧ mg cn = some (.ref C) ∧ ∀ p ∈ pats, Bnd1 K fd ps p
theorem MethX.ok {C : Addr} {q m : Str} {st : Stmt} {N ps : List Str} {pats : List Pat} {k : Nat} {sp : Sp} (D : MethX K C q m st ps pats) (c : Cls K C) (S : FnScope N ps (defScope st)) (len : ∀ vs H Q E, sp vs H Q E → vs.length = ps.length)
    (hbody : BodyX P w K mg base q st N k sp) : MetX P w K mg base (k + 1) C m sp pats := by
  obtain ⟨f, fd, dvs, kws, F, me, b⟩ := D.ex
  exact ⟨f, fd, ps, c, me, F.ok S len (fun cdv A outer s H vs Q E hr h => hbody f cdv A outer s H vs Q E hr h), b⟩
theorem PropX.ok {C : Addr} {q m : Str} {st : Stmt} {N ps : List Str} {pats : List Pat} {k : Nat} {sp : Sp} (D : PropX K C q m st ps pats) (c : Cls K C) (S : FnScope N ps (defScope st)) (len : ∀ vs H Q E, sp vs H Q E → vs.length = ps.length)
    (hbody : BodyX P w K mg base q st N k sp) : PropY P w K mg base (k + 1) C m sp pats := by
  obtain ⟨r, f, fd, dvs, kws, F, me, b⟩ := D.ex
  exact ⟨r, f, fd, ps, c, me, F.ok S len (fun cdv A outer s H vs Q E hr h => hbody f cdv A outer s H vs Q E hr h), b⟩
theorem InitX.ok {C : Addr} {cn q : Str} {st : Stmt} {N ps : List Str} {pats : List Pat} {k : Nat} {sp : Sp} (D : InitX K mg C cn q st ps pats) (S : FnScope N ps (defScope st)) (len : ∀ vs H Q E, sp vs H Q E → vs.length = ps.length)
    (hbody : BodyX P w K mg base q st N k sp) : MakX P w K mg base (k + 1) cn C sp pats := by
  obtain ⟨f, fd, dvs, kws, F, me, hm, b⟩ := D.ex
  exact ⟨f, fd, ps, me, F.ok S len (fun cdv A outer s H vs Q E hr h => hbody f cdv A outer s H vs Q E hr h), hm, b⟩
end
theorem cW_callN {α β : Type} {m : Rx β} {f : β → Rx α} {K : α → Prop} {E : Nat → Prop} {K2 : β → Prop} {E2 : Nat → Prop} (h : cW ((noEr m).bind f) K E) (ho : ∀ v, cW (f v) K E → K2 v) (_ : True) : cW m K2 E2 := by
  cases m with
  | ok a => exact ho a h
  | er e => exact h.elim
  | bad => exact h.elim
section
variable {X : Cx} {k j n : Nat} {f C : Addr} {fd : FuncData} {ps ks : List Str} {g : List V → List V → List V} {sp : Sp} {x m : Str} {pos p apos : Pos} {e o : Expr} {es : List Expr} {kws : List Keyword} {ta : TE} {t tk : TA} {W : WX}
theorem run_mkX {pins : List (Addr × Obj)} {σ : L2.St} {H : Hp} {s : Shared} {Q : VK} {us ws : List Value} {vs zs : List V} (M : Mk X.K C f) (F : FnOk X.prog X.w X.K X.mg X.base (L2.CX X.prog X.w) k f fd ps sp) (hr : Room (k + 1) X.A) (hb : Bnd X.K fd ps n ks g) (tkW : Takes X W)
    (I : Inv X pins σ H s) (r : Vals vs us) (rz : Vals zs ws) (l1 : vs.length + 1 = n) (l2 : zs.length = ks.length)
    (h : ∀ x dx, H x = none → H dx = none → dx ≠ x → sp (g (.ref x :: vs) zs) (upd (upd H dx (.own x)) x (.ins C dx [])) (fun v H2 => v = .non ∧ Q (.ref x) H2) (WE W σ)) :
    wpAny (model X.prog X.w) X.A (call (.ref C) us (ks.zip ws)) (EP X pins σ Q) X.xe s := by
  have hq := h (s.heap.objs.size + 1) s.heap.objs.size (I.hok.fresh (Nat.le_succ _)) (I.hok.fresh (Nat.le_refl _)) (Nat.ne_of_lt (Nat.lt_succ_self _))
  have I2 := Inv.made (C := C) I
  have r1 : Vals (V.ref (s.heap.objs.size + 1) :: vs) (Value.ref (s.heap.objs.size + 1) :: us) := .cons rfl r
  obtain ⟨vv, b, r2⟩ := hb.to _ (Value.ref (s.heap.objs.size + 1) :: us) ws (V.ref (s.heap.objs.size + 1) :: vs) zs I2.kIn (by rw [List.length_cons, l1]) l2 r1 rz
  refine wpAny_call (make_map (f := f) I.kIn M.makes M.init (beq_iff_eq.mp M.fn) (codeAny_mono (F.run _ X.stack _ _ ⟨Value.ref (s.heap.objs.size + 1) :: us, ks.zip ws⟩ vv _ _ (WE W σ) (hr.make C us (ks.zip ws))
    (I2.env0.make C us (ks.zip ws)) b r2 hq) fun r s' hq' => ?_))
  cases r with
  | error e => exact passAt tkW σ pins _ _ e s' I2 hq'
  | ok fl =>
    cases fl with
    | ret u =>
      obtain ⟨v, H', I3, rv, ev, q3⟩ := I2.after hq'
      subst ev
      exact ⟨rv, ⟨V.ref (s.heap.objs.size + 1), H', I3, rfl, q3⟩⟩
    | next => exact False.elim hq'
    | brk => exact False.elim hq'
    | cont => exact False.elim hq'
/-- C(e, .., k = v, ..) -/
def tMakeX (C : Addr) (n m : Nat) (sp : Sp) (g : List V → List V → List V) (W : WX) (t tk : TA) : TE := fun σ H Q => t σ H fun vs H1 => tk σ H1 fun zs H2 => vs.length + 1 = n ∧ zs.length = m ∧ ∀ x dx, H2 x = none → H2 dx = none → dx ≠ x →
  sp (g (.ref x :: vs) zs) (upd (upd H2 dx (.own x)) x (.ins C dx [])) (fun v H3 => v = .non ∧ Q (.ref x) H3) (WE W σ)
theorem vx_makeX {pats : List Pat} (c : MakX X.prog X.w X.K X.mg X.base k x C sp pats) (pt : Pat) (hpt : pt ∈ pats) (hr : Room j X.A) (hk : k + 1 ≤ j) (tkW : Takes X W) (hg : Gl X x) (ha : PA X (e :: es) t) (hkw : PK X kws tk)
    (hall : (backToKw pos (keywordEach kws X.env)).all (·.1.isSome) = true := by rfl) (hks : (backToKw pos (keywordEach kws X.env)).filterMap (·.1) = pt.2.1 := by rfl) (hdb : (x == ("__debug__" : Str)) = false := by decide)
    (he : starEach (e :: es) X.env = (false, eval e X.env) :: starEach es X.env := by rfl) (hpl : ((backTo pos (starEach (e :: es) X.env)).any (·.1) || (backToKw pos (keywordEach kws X.env)).any (·.1.isNone)) = false := by rfl) :
    PE X (.Call (.Name x p) (e :: es) kws pos) (tMakeX C pt.1 pt.2.1.length sp pt.2.2 W t tk) := by
  obtain ⟨f, fd, ps, M, F, hm, b⟩ := c.ex
  refine ⟨fun pins s σ H Q I h => ?_⟩
  refine wpAny_Call_Name_kw (ld_glob I hg hm ?_ hdb)
  refine PySem.W.callWith_KW (h₀ := X.base) I.ok.mod.kin M.kp hall (thn (ha.run pos pins s σ H _ I h) fun us s1 ⟨vs, H1, I1, r, q⟩ => ?_) hpl he
  refine thn (hkw.run pos pins s1 σ H1 _ I1 q) fun ws s2 ⟨zs, H2, I2, rz, l1, l2, q2⟩ => ⟨I2.kIn, ?_⟩
  rw [hks]
  exact run_mkX M F (hr.mono hk) (b pt hpt) tkW I2 r rz l1 l2 q2
theorem vx_makeX0 {pats : List Pat} (c : MakX X.prog X.w X.K X.mg X.base k x C sp pats) (pt : Pat) (hpt : pt ∈ pats) (hr : Room j X.A) (hk : k + 1 ≤ j) (tkW : Takes X W) (hg : Gl X x) (hks : pt.2.1 = [] := by rfl)
    (hdb : (x == ("__debug__" : Str)) = false := by decide) : PE X (.Call (.Name x p) [] [] pos) (tMakeX C pt.1 pt.2.1.length sp pt.2.2 W tNil tNil) := by
  obtain ⟨f, fd, ps, M, F, hm, b⟩ := c.ex
  refine ⟨fun pins s σ H Q I h => ?_⟩
  refine wpAny_Call_Name_kw (ld_glob I hg hm ?_ hdb)
  obtain ⟨l1, l2, q2⟩ := h
  have hz := run_mkX (us := []) (ws := []) M F (hr.mono hk) (b pt hpt) tkW I .nil .nil l1 l2 q2
  rw [hks] at hz
  exact PySem.W.callWith_K0 I.kIn M.kp hz
/-- o.m(e, .., k = v, ..) -/
def tMethX (C : Addr) (m : Str) (n mm : Nat) (sp : Sp) (g : List V → List V → List V) (W : WX) (ta : TE) (t tk : TA) : TE := fun σ H Q => ta σ H fun x H1 => ∃ a dx fs, x = .ref a ∧ H1 a = some (.ins C dx fs) ∧ fs.lookup m = none ∧
  t σ H1 fun vs H2 => tk σ H2 fun zs H3 => (x :: vs).length = n ∧ zs.length = mm ∧ sp (g (x :: vs) zs) H3 Q (WE W σ)
theorem vx_methX {pats : List Pat} {pl : Sem Bool} (c : MetX X.prog X.w X.K X.mg X.base k C m sp pats) (pt : Pat) (hpt : pt ∈ pats) (hr : Room j X.A) (hk : k ≤ j) (tkW : Takes X W) (he : PE X o ta) (ha : PA X (e :: es) t) (hkw : PK X kws tk)
    (hall : (backToKw pos (keywordEach kws X.env)).all (·.1.isSome) = true := by rfl) (hks : (backToKw pos (keywordEach kws X.env)).filterMap (·.1) = pt.2.1 := by rfl)
    (hst : starEach (e :: es) X.env = (false, eval e X.env) :: starEach es X.env := by rfl) (hpl : ((backTo pos (starEach (e :: es) X.env)).any (·.1) || (backToKw pos (keywordEach kws X.env)).any (·.1.isNone)) = false := by rfl)
    (ht : eval (.Call (.Attribute o m apos) (e :: es) kws pos) X.env = (do
      let ov ← eval o X.env
      standAt apos.atName
      let (f, first) ← holding [ov] (getMethod ov m pl)
      callWith pos f first (backTo pos (starEach (e :: es) X.env)) (backToKw pos (keywordEach kws X.env))) := by rfl) :
    PE X (.Call (.Attribute o m apos) (e :: es) kws pos) (tMethX C m pt.1 pt.2.1.length sp pt.2.2 W ta t tk) := by
  obtain ⟨f, fd, ps, hc, hm, F, b⟩ := c.ex
  refine ⟨fun pins s σ H Q I h => ?_⟩
  refine PySem.W.methodCall_KW (pl := pl) (thn (he.run pins s σ H _ I h) fun u s1 ⟨x, H1, I1, rx, a, dx, fs, ex, ea, l, q⟩ => ?_) ht
  subst ex
  obtain rfl : u = Value.ref a := rx
  refine getmeth_ok I1 ea hc hm l ?_
  refine PySem.W.callWith_KW (first := [.ref a]) (h₀ := X.base) I.ok.mod.kin hm.kp hall (thn (ha.run pos pins s1 σ H1 _ I1 q) fun us s2 ⟨vs, H2, I2, r, q2⟩ => ?_) hpl hst
  refine thn (hkw.run pos pins s2 σ H2 _ I2 q2) fun ws s3 ⟨zs, H3, I3, rz, l1, l2, q3⟩ => ⟨I3.kIn, ?_⟩
  rw [hks]
  exact run_X (us := .ref a :: us) (vs := .ref a :: vs) F (hr.mono hk) (b pt hpt) tkW I3 (.cons rfl r) rz l1 l2 q3
theorem vx_methX0 {pats : List Pat} {pl : Sem Bool} (c : MetX X.prog X.w X.K X.mg X.base k C m sp pats) (pt : Pat) (hpt : pt ∈ pats) (hr : Room j X.A) (hk : k ≤ j) (tkW : Takes X W) (he : PE X o ta) (hks : pt.2.1 = [] := by rfl)
    (ht : eval (.Call (.Attribute o m apos) [] [] pos) X.env = (do
      let ov ← eval o X.env
      standAt apos.atName
      let (f, first) ← holding [ov] (getMethod ov m pl)
      callWith pos f first (backTo pos (starEach [] X.env)) (backToKw pos (keywordEach [] X.env))) := by rfl) :
    PE X (.Call (.Attribute o m apos) [] [] pos) (tMethX C m pt.1 pt.2.1.length sp pt.2.2 W ta tNil tNil) := by
  obtain ⟨f, fd, ps, hc, hm, F, b⟩ := c.ex
  refine ⟨fun pins s σ H Q I h => ?_⟩
  refine PySem.W.methodCall_KW (pl := pl) (thn (he.run pins s σ H _ I h) fun u s1 ⟨x, H1, I1, rx, a, dx, fs, ex, ea, l, q⟩ => ?_) ht
  subst ex
  obtain rfl : u = Value.ref a := rx
  refine getmeth_ok I1 ea hc hm l ?_
  obtain ⟨l1, l2, q3⟩ := q
  have hz := run_X (us := [.ref a]) (vs := [.ref a]) (ws := []) F (hr.mono hk) (b pt hpt) tkW I1 (.cons rfl .nil) .nil l1 l2 q3
  rw [hks] at hz
  exact PySem.W.callWith_K0 (first := [.ref a]) I1.kIn hm.kp hz
theorem vx_propX {pats : List Pat} (c : PropY X.prog X.w X.K X.mg X.base k C m sp pats) (hr : Room j X.A) (hk : k + 1 ≤ j) (he : PE X o ta) (hab : attributeBase o m X.env (eval o X.env) = eval o X.env := by rfl) : PE X (.Attribute o m pos) (tProp C sp [] E0 ta) := by
  obtain ⟨q, f, fd, ps, hc, hp, F, b⟩ := c.ex
  exact pe_prop he hc hp F (hr.mono hk) b .nil (passL (X := X.nox)) hab
end
theorem Sep.news {M : List Addr} {H0 G0 G H H' : Hp} {O : List Addr} (S : Sep M H0 G0 G H O) (e : Same H H') (L : List Addr) (hL : ∀ a ∈ L, H a = none ∧ H' a ≠ none ∧ H0 a = none) : Sep M H0 G0 G H' (L ++ O) := by
  have S2 := S.same e
  refine ⟨S2.base, S2.pm, S2.sG, S2.g0, S2.gn, fun a ha => ?_⟩
  rcases List.mem_append.mp ha with h | h
  · obtain ⟨h1, h2, h3⟩ := hL a h
    exact ⟨S.gfree h1, h2, .inr h3⟩
  · exact S2.ow a h
theorem vv_chain {r r' : R2} {ta tb tc : TE} {σ : L2.St} {H : Hp} {x y z : V} {a b : Bool} (ha : Val ta σ H x) (hb : Val tb σ H y) (hc : Val tc σ H z) (h1 : ∀ Q : VK, Q (.bl a) H → r x y H Q) (h2 : ∀ Q : VK, Q (.bl b) H → r' y z H Q) :
    Val (tChain r r' ta tb tc) σ H (.bl (a && b)) := fun Q q => ha _ (hb _ (h1 _ ⟨a, rfl, by
  cases a with
  | true =>
    rw [if_pos rfl]
    exact hc _ (h2 _ q)
  | false =>
    rw [if_neg Bool.false_ne_true]
    exact q⟩))
/-! ### constants that are tuples, lists backwards, zip -/
theorem inV_ints (x : Int) : ∀ xs : List Int, inV (V.int x) (xs.map V.int) = decide (x ∈ xs)
  | [] => by simp [inV]
  | y :: r => by
    have h := inV_ints x r
    unfold inV at h ⊢
    rw [List.map_cons, List.any_cons, h]
    by_cases c : x = y
    · subst c
      simp [eqV]
    · simp [eqV, c, Ne.symm c]
theorem flat_ints : ∀ xs : List Int, (xs.map V.int).all flatV = true
  | [] => rfl
  | _ :: r => flat_ints r
def rInI (K : PySem.W.Frag) : R2 := fun x y H Q => ∃ (i : Int) (p : Addr) (xs : List Int), x = .int i ∧ y = .ref p ∧ (SqL K H p (xs.map V.int) ∨ SqT K H p (xs.map V.int)) ∧ Q (.bl (decide (i ∈ xs))) H
def rNotInI (K : PySem.W.Frag) : R2 := fun x y H Q => ∃ (i : Int) (p : Addr) (xs : List Int), x = .int i ∧ y = .ref p ∧ (SqL K H p (xs.map V.int) ∨ SqT K H p (xs.map V.int)) ∧ Q (.bl (!decide (i ∈ xs))) H
theorem op_inI {X : Cx} {K : PySem.W.Frag} (hK : X.K = K := by rfl) : OpR X (compareOp .In) (rInI K) := by
  subst hK
  intro pins s σ H x y v u Q I rx ry h
  obtain ⟨i, p, xs, rfl, rfl, hs, q⟩ := h
  refine op_in_seq pins s σ H _ _ v u Q I rx ry ⟨p, _, rfl, hs, rfl, flat_ints xs, ?_⟩
  rw [if_neg Bool.false_ne_true, inV_ints]
  exact q
theorem op_notInI {X : Cx} {K : PySem.W.Frag} (hK : X.K = K := by rfl) : OpR X (compareOp .NotIn) (rNotInI K) := by
  subst hK
  intro pins s σ H x y v u Q I rx ry h
  obtain ⟨i, p, xs, rfl, rfl, hs, q⟩ := h
  refine op_notIn_seq pins s σ H _ _ v u Q I rx ry ⟨p, _, rfl, hs, rfl, flat_ints xs, ?_⟩
  rw [if_pos rfl, inV_ints]
  exact q
theorem pe_revLK {X : Cx} {K : PySem.W.Frag} {e : Expr} {te : TE} {k : Nat} {p1 p2 p3 pos : Pos} (he : PE X e te) (hK : X.K = K := by rfl) : PE X (.Subscript e (.Slice none none (some (.UnaryOp .USub (.Constant (.int 1) k p1) p2)) p3) pos) (tRevL K te) := hK ▸ pe_revL he
theorem rev_map {α : Type} {f : α → V} {xs : List α} {H : Hp} {p : Addr} (h : H p = some (.lst (xs.map f).reverse)) : H p = some (.lst (xs.reverse.map f)) := by
  rw [List.map_reverse]
  exact h
theorem RpAll.rev {G : Hp} : ∀ {vs : List V} {ds : List PyData}, RpAll G vs ds → RpAll G vs.reverse ds.reverse
  | _, _, .nil => .nil
  | _, _, .cons h t => by
    rw [List.reverse_cons, List.reverse_cons]
    exact (RpAll.rev t).append (.one h)
theorem rev_all {α : Type} {f : α → PyData} {xs : List α} {G : Hp} {vs : List V} (a : RpAll G vs (xs.map f)) : RpAll G vs.reverse (xs.reverse.map f) := by
  rw [List.map_reverse]
  exact a.rev
theorem pi_zipK {X : Cx} {K : PySem.W.Frag} {e e2 : Expr} {ta : TA} {p pos tpos : Pos} {elts : List Expr} {kk : Nat} (hg : Gl X "zip") (hm : X.mg "zip" = none) (ha : PA X [e, e2] ta) (hK : X.K = K := by rfl)
    (hs : starEach [e, e2] X.env = (false, eval e X.env) :: starEach [e2] X.env := by rfl) (hpl : (backTo pos (starEach [e2] X.env)).any (·.1) = false := by rfl) :
    PI X (.Tuple elts kk tpos) (.Call (.Name "zip" p) [e, e2] [] pos) (RZ.iZipA K ta) := hK ▸ RZ.pi_zipA hg hm ha hs hpl
/-- a comprehension over zip of two lists of one length -/
theorem lc_zipL {K : PySem.W.Frag} {a b : Addr} {xs ys : List V} {g : TG} {tt : TT} {te : TE} {vs : List Nat} {σ : L2.St} {H1 : Hp} {D : Addr} {Qd : Hp → Prop} (hl : xs.length = ys.length) (Pv : Nat → Hp → Prop) (h0 : Pv 0 (upd H1 D (.lst []))) (hq : ∀ i H, i ≤ xs.length → Pv i H → SqL K H a xs ∧ SqL K H b ys)
    (hs : ∀ (i : Nat) (x y : V) (T : Addr) (H : Hp), xs[i]? = some x → ys[i]? = some y → H T = none → Pv i H → g (.ref T) (wipe σ vs) (upd H T (.tup [x, y])) fun σ2 H2 => wipe σ2 vs = wipe σ vs ∧ tt σ2 H2 fun b H3 =>
      if b = true then te σ2 H3 fun y H4 => ∃ acc, H4 D = some (.lst acc) ∧ acc.length < sizeLine ∧ Pv (i + 1) (upd H4 D (.lst (acc ++ [y]))) else Pv (i + 1) H3) (hd : ∀ H, Pv xs.length H → Qd H) :
    ∃ W : Nat → Nat → Hp → Prop, (∃ m, W 0 m (upd H1 D (.lst []))) ∧ ∀ i m H, W i m H →
      ((Itz K a b).stop i H ∧ Qd H) ∨ ((Itz K a b).go i H ∧ ∃ Nx : Hp → Prop, (∀ H', Nx H' → ∃ m', m' < m ∧ W (i + 1) m' H') ∧ ∀ x H', (Itz K a b).yld i H x H' → g x (wipe σ vs) H' fun σ2 H2 => wipe σ2 vs = wipe σ vs ∧ tt σ2 H2 fun b H3 =>
        if b = true then te σ2 H3 fun y H4 => ∃ acc, H4 D = some (.lst acc) ∧ acc.length < sizeLine ∧ Nx (upd H4 D (.lst (acc ++ [y]))) else Nx H3) := by
  refine ⟨fun i m H => m = xs.length - i ∧ i ≤ xs.length ∧ Pv i H, ⟨xs.length, by simp, Nat.zero_le _, h0⟩, ?_⟩
  rintro i m H ⟨rfl, hi, p⟩
  obtain ⟨qx, qy⟩ := hq i H hi p
  by_cases hlt : i < xs.length
  · have hlt2 : i < ys.length := by omega
    refine .inr ⟨⟨xs, ys, xs[i], ys[i], qx, qy, List.getElem?_eq_getElem hlt, List.getElem?_eq_getElem hlt2⟩, Pv (i + 1), fun H' p' => ⟨xs.length - (i + 1), by omega, rfl, hlt, p'⟩, fun v H' y => ?_⟩
    obtain ⟨T, x', y', rfl, hT, rfl, f1, f2⟩ := y
    exact hs i x' y' T H (f1 xs qx) (f2 ys qy) hT p
  · have e : i = xs.length := by omega
    subst e
    exact .inl ⟨⟨xs, ys, qx, qy, Or.inl (Nat.le_refl _)⟩, hd H p⟩
theorem zip_get {α β : Type} {xs : List α} {ys : List β} {i : Nat} {x : α} {y : β} (h1 : xs[i]? = some x) (h2 : ys[i]? = some y) : (xs.zip ys)[i]? = some (x, y) := by
  rw [List.getElem?_zip_eq_some]
  exact ⟨h1, h2⟩
theorem zip_len {α β : Type} {xs : List α} {ys : List β} {n : Nat} (h : xs.length = ys.length) (e : n = xs.length) : n = (xs.zip ys).length := by
  rw [List.length_zip, ← h, Nat.min_self]
  exact e
theorem zlen {α β : Type} {vs ws : List V} {xs : List α} {ys : List β} (a : vs.length = xs.length) (b : ws.length = ys.length) (h : xs.length = ys.length) : vs.length = ws.length := by rw [a, b, h]
section
variable {t : TT} {ta tb : TE} {σ : L2.St} {H : Hp}
theorem vv_ifP {p : Prop} [Decidable p] {a b : Int} (ht : Ans t σ H (decide p)) (hx : p → Val ta σ H (.int a)) (hy : ¬ p → Val tb σ H (.int b)) : Val (tIf t ta tb) σ H (.int (if p then a else b)) := by
  by_cases h : p
  · have := vv_if (p := p) (a := a) (b := a) ht (hx h) (tb := ta) (hx h)
    intro Q q
    refine ht _ ?_
    rw [decide_eq_true h, if_pos rfl]
    rw [if_pos h] at q
    exact hx h _ q
  · intro Q q
    refine ht _ ?_
    rw [decide_eq_false h, if_neg Bool.false_ne_true]
    rw [if_neg h] at q
    exact hy h _ q
theorem vv_ifQ {c : Bool} {a b : Int} (ht : Ans t σ H c) (hx : c = true → Val ta σ H (.int a)) (hy : c = false → Val tb σ H (.int b)) : Val (tIf t ta tb) σ H (.int (if c = true then a else b)) := by
  intro Q q
  refine ht _ ?_
  cases c with
  | true =>
    rw [if_pos rfl]
    rw [if_pos rfl] at q
    exact hx rfl _ q
  | false =>
    rw [if_neg Bool.false_ne_true]
    rw [if_neg Bool.false_ne_true] at q
    exact hy rfl _ q
end
end Vx
/-! # fourth part: reckoning with functions that may refuse -/
namespace Vx
open PySem PySem.Spec PyProof.Rows L2
section
variable {α β σ ρ τ : Type}
theorem bind_ok (a : α) (f : α → Rx β) : (Rx.ok a).bind f = f a := rfl
theorem bind_er (e : Nat) (f : α → Rx β) : (Rx.er e : Rx α).bind f = .er e := rfl
theorem grd_pos {p : Prop} {dp : Decidable p} {m : Rx α} (h : p) : grd p m = m := if_pos h
theorem bnd_eq (a : α) (f : α → Rx β) : bnd a f = f a := rfl
theorem noEr_ok (a : α) : noEr (.ok a : Rx α) = .ok a := rfl
theorem tryR_ok {cs : List Nat} (a : α) (f : α → Rx β) (g : Nat → Rx β) : tryR (.ok a) cs f g = f a := rfl
theorem tryR_er {cs : List Nat} {e : Nat} (h : e ∈ cs) (f : α → Rx β) (g : Nat → Rx β) : tryR (.er e) cs f g = g e := if_pos h
theorem aft_go (s : σ) (kr : ρ → Rx τ) (k : σ → Rx τ) : (Lp.go s : Lp σ ρ).aft kr k = k s := rfl
theorem aft_rt (r : ρ) (kr : ρ → Rx τ) (k : σ → Rx τ) : (Lp.rt r : Lp σ ρ).aft kr k = kr r := rfl
/-- gives a value of which P holds -/
def Gv (m : Rx α) (P : α → Prop) : Prop := ∃ v, m = .ok v ∧ P v
theorem Gv.ok {a : α} {P : α → Prop} (h : P a) : Gv (.ok a) P := ⟨a, rfl, h⟩
theorem Gv.of_eq {m : Rx α} {a : α} {P : α → Prop} (e : m = .ok a) (h : P a) : Gv m P := ⟨a, e, h⟩
theorem Gv.bind {m : Rx α} {f : α → Rx β} {P : α → Prop} {Q : β → Prop} (h : Gv m P) (k : ∀ v, P v → Gv (f v) Q) : Gv (m.bind f) Q := by
  obtain ⟨v, rfl, p⟩ := h
  exact k v p
theorem Gv.bind_eq {m : Rx α} {f : α → Rx β} {a : α} {Q : β → Prop} (h : m = .ok a) (k : Gv (f a) Q) : Gv (m.bind f) Q := by
  subst h
  exact k
theorem Gv.grd {p : Prop} {dp : Decidable p} {m : Rx α} {Q : α → Prop} (h : p) (k : Gv m Q) : Gv (Vx.grd p m) Q := by
  rw [grd_pos h]
  exact k
theorem Gv.bnd {a : α} {f : α → Rx β} {Q : β → Prop} (k : ∀ x, x = a → Gv (f x) Q) : Gv (Vx.bnd a f) Q := k a rfl
theorem Gv.ite {p : Prop} {dp : Decidable p} {a b : Rx α} {Q : α → Prop} (h1 : p → Gv a Q) (h2 : ¬ p → Gv b Q) : Gv (if p then a else b) Q := by
  split
  · exact h1 ‹_›
  · exact h2 ‹_›
theorem Gv.pos {p : Prop} {dp : Decidable p} {a b : Rx α} {Q : α → Prop} (h : p) (k : Gv a Q) : Gv (if p then a else b) Q := by rwa [if_pos h]
theorem Gv.neg {p : Prop} {dp : Decidable p} {a b : Rx α} {Q : α → Prop} (h : ¬ p) (k : Gv b Q) : Gv (if p then a else b) Q := by rwa [if_neg h]
theorem Gv.imp {m : Rx α} {P Q : α → Prop} (h : Gv m P) (k : ∀ v, P v → Q v) : Gv m Q := by
  obtain ⟨v, e, p⟩ := h
  exact ⟨v, e, k v p⟩
theorem Gv.noEr {m : Rx α} {P : α → Prop} (h : Gv m P) : Gv (Vx.noEr m) P := by
  obtain ⟨v, rfl, p⟩ := h
  exact ⟨v, rfl, p⟩
theorem Gv.tryOk {m : Rx α} {cs : List Nat} {f : α → Rx β} {g : Nat → Rx β} {P : α → Prop} {Q : β → Prop} (h : Gv m P) (k : ∀ v, P v → Gv (f v) Q) : Gv (tryR m cs f g) Q := by
  obtain ⟨v, rfl, p⟩ := h
  exact k v p
theorem Gv.tryEr {m : Rx α} {cs : List Nat} {e : Nat} {f : α → Rx β} {g : Nat → Rx β} {Q : β → Prop} (h : m = .er e) (hm : e ∈ cs) (k : Gv (g e) Q) : Gv (tryR m cs f g) Q := by
  subst h
  rw [tryR_er hm]
  exact k
theorem Gv.get {m : Rx α} {a : α} (h : Gv m (fun v => v = a)) : m = .ok a := by
  obtain ⟨v, e, rfl⟩ := h
  exact e
theorem Gv.eq {m : Rx α} {P : α → Prop} (h : Gv m P) : ∃ v, m = .ok v ∧ P v := h
/-- a loop that keeps P -/
theorem Gv.forS {P : Nat → σ → Prop} {xs : List α} {s : σ} {f : σ → α → Rx σ} (h0 : P 0 s) (hs : ∀ i x s, xs[i]? = some x → P i s → Gv (f s x) (P (i + 1))) : Gv (Vx.forS xs s f) (P xs.length) := by
  induction xs generalizing s P with
  | nil => exact .ok h0
  | cons x r ih =>
    refine Gv.bind (hs 0 x s rfl h0) fun s' p => ?_
    exact ih (P := fun i => P (i + 1)) p fun i y s hy q => hs (i + 1) y s (by simpa using hy) q
theorem Gv.forR {P : Nat → σ → Prop} {xs : List α} {s : σ} {f : σ → α → Rx (Lp σ ρ)} (h0 : P 0 s) (hs : ∀ i x s, xs[i]? = some x → P i s → Gv (f s x) (fun l => ∃ s', l = .go s' ∧ P (i + 1) s')) : Gv (Vx.forR xs s f) (fun l => ∃ s', l = .go s' ∧ P xs.length s') := by
  induction xs generalizing s P with
  | nil => exact .ok ⟨s, rfl, h0⟩
  | cons x r ih =>
    refine Gv.bind (hs 0 x s rfl h0) ?_
    rintro _ ⟨s', rfl, p⟩
    exact ih (P := fun i => P (i + 1)) p fun i y s hy q => hs (i + 1) y s (by simpa using hy) q
/-- a loop that carries nothing -/
theorem forR_unit {xs : List α} {f : Unit → α → Rx (Lp Unit ρ)} (h : ∀ x ∈ xs, f () x = .ok (.go ())) : Vx.forR xs () f = .ok (.go ()) := by
  induction xs with
  | nil => rfl
  | cons x r ih =>
    show (f () x).bind _ = _
    rw [h x List.mem_cons_self]
    exact ih fun y hy => h y (List.mem_cons_of_mem _ hy)
theorem forS_pure {xs : List α} {s : σ} {f : σ → α → Rx σ} {g : σ → α → σ} (h : ∀ s x, x ∈ xs → f s x = .ok (g s x)) : Vx.forS xs s f = .ok (xs.foldl g s) := by
  induction xs generalizing s with
  | nil => rfl
  | cons x r ih =>
    show (f s x).bind _ = _
    rw [h s x List.mem_cons_self]
    exact ih fun s y hy => h s y (List.mem_cons_of_mem _ hy)
theorem mapA_pure {xs : List α} {acc : List β} {f : α → Rx β} {g : α → β} (h : ∀ x ∈ xs, f x = .ok (g x)) (hl : acc.length + xs.length ≤ 1000000) : mapA xs acc f = .ok (acc ++ xs.map g) := by
  induction xs generalizing acc with
  | nil => simp [mapA]
  | cons x r ih =>
    rw [List.length_cons] at hl
    unfold mapA
    rw [grd_pos (by omega), h x List.mem_cons_self, bind_ok, ih (fun y hy => h y (List.mem_cons_of_mem _ hy)) (by rw [List.length_append, List.length_cons, List.length_nil]; omega)]
    simp
theorem mapA_pure0 {xs : List α} {f : α → Rx β} {g : α → β} (h : ∀ x ∈ xs, f x = .ok (g x)) (hl : xs.length ≤ 1000000) : mapA xs [] f = .ok (xs.map g) := by
  rw [mapA_pure h (by simpa using hl)]
  rfl
theorem mapF_pure {xs : List α} {acc : List β} {f : α → Rx (Option β)} {g : α → Option β} (h : ∀ x ∈ xs, f x = .ok (g x)) (hl : acc.length + xs.length ≤ 1000000) : mapF xs acc f = .ok (acc ++ xs.filterMap g) := by
  induction xs generalizing acc with
  | nil => simp [mapF]
  | cons x r ih =>
    rw [List.length_cons] at hl
    unfold mapF
    rw [grd_pos (by omega), h x List.mem_cons_self, bind_ok]
    cases e : g x with
    | none =>
      show mapF r acc f = _
      rw [ih (fun y hy => h y (List.mem_cons_of_mem _ hy)) (by omega), List.filterMap_cons, e]
    | some z =>
      show mapF r (acc ++ [z]) f = _
      rw [ih (fun y hy => h y (List.mem_cons_of_mem _ hy)) (by rw [List.length_append, List.length_cons, List.length_nil]; omega), List.filterMap_cons, e]
      simp
/-- a while that ends: m falls -/
theorem Gv.whileR {P : σ → Prop} {R : σ → Prop} (m : σ → Nat) {f : σ → Rx (Lp σ ρ)} (hs : ∀ s, P s → Gv (f s) (fun l => (∃ s', l = .go s' ∧ P s' ∧ m s' < m s) ∨ ∃ s', l = .bk s' ∧ R s')) : ∀ {n : Nat} {s : σ}, P s → m s < n → Gv (Vx.whileR n s f) (fun l => ∃ s', l = .go s' ∧ R s') := by
  intro n
  induction n with
  | zero => intro s _ h; exact absurd h (Nat.not_lt_zero _)
  | succ n ih =>
    intro s p h
    refine Gv.bind (hs s p) ?_
    rintro _ (⟨s', rfl, p', l⟩ | ⟨s', rfl, r⟩)
    · exact ih p' (by omega)
    · exact .ok ⟨s', rfl, r⟩
end
theorem rng_mem {lo x : Int} {n : Nat} (h : x ∈ rng lo n) : lo ≤ x ∧ x < lo + n := by
  unfold rng at h
  obtain ⟨j, hj, rfl⟩ := List.mem_map.mp h
  have := List.mem_range.mp hj
  omega
theorem rng_at {lo x : Int} {n i : Nat} (h : (rng lo n)[i]? = some x) : x = lo + i ∧ i < n := by
  have hl := get_len h
  rw [rng_len] at hl
  rw [rng_get hl] at h
  exact ⟨(Option.some.inj h).symm, hl⟩
end Vx
namespace Vx
open PySem PySem.Spec PyProof.Rows L2
def F__law_draws_b1 (free_15 : Bool) (found_33 : (List Int)) (rest_34 : Int) (state_35 : Int) (it38 : Int) : Rx ((List Int) × Int × Int) :=
  (if free_15 = true then (if 1 < rest_34 then grd (0 < it38) <| grd ((found_33).length ≤ 1000000) <| bnd ((found_33) ++ [(rest_34 % it38)]) fun y49 => grd (0 < it38 ∧ it38 < 2 ^ 128) <| bnd ((rest_34 / it38)) fun rest_51 => .ok ((y49), (rest_51), (state_35)) else bnd ((((state_35 * 48271) + 11) % 2147483647)) fun state_52 => bnd ((((state_52 * 69621) + 7) % 2147483647)) fun state_53 => grd (0 < it38) <| grd ((found_33).length ≤ 1000000) <| bnd ((found_33) ++ [((state_53 / 13) % it38)]) fun y62 => .ok ((y62), (rest_34), (state_53))) else bnd ((((state_35 * 48271) + 11) % 2147483647)) fun state_63 => bnd ((((state_63 * 69621) + 7) % 2147483647)) fun state_64 => grd (0 < it38) <| grd ((found_33).length ≤ 1000000) <| bnd ((found_33) ++ [((state_64 / 13) % it38)]) fun y73 => .ok ((y73), (rest_34), (state_64)))

def F__law_draws_r1 (found_79 : (List Int)) (rest_80 : Int) (state_81 : Int) : Rx (List Int) :=
  .ok (found_79)

def F__law_draws (cell' : Int) (limits' : (List Int)) : Rx (List Int) :=
  bnd ((if cell' < 0 then -cell' else cell')) fun rest_10 => bnd ((rest_10 % 2147483647)) fun state_11 => bnd ((decide (cell' < 0) || decide (((10 : Int) ^ Int.toNat 18) ≤ cell'))) fun free_14 => Rx.bind (forS (limits') ((([] : (List Int))), (rest_10), (state_11)) (fun s x => F__law_draws_b1 (free_14) (s.1) (s.2.1) (s.2.2) x)) fun s => F__law_draws_r1  (s.1) (s.2.1) (s.2.2)

def F__law_plane_c3 (top_161 : Int) (values_162 : (List Int)) (it188 : Int) : Rx Int :=
  grd (-((values_162).length : Int) ≤ 0 ∧ 0 < ((values_162).length : Int)) <| grd (0 < (top_161 + 1)) <| .ok ((((itD (values_162) (0)) + (7 * it188)) % (top_161 + 1)))

def F__law_plane_c5 (top_221 : Int) (it256 : Int) : Rx Int :=
  grd ((-(2 ^ 64) < top_221 ∧ top_221 < 2 ^ 64) ∨ (-(2 ^ 64) < (it256 % 2) ∧ (it256 % 2) < 2 ^ 64)) <| .ok ((top_221 * (it256 % 2)))

def F__law_plane_c6 (width_281 : Int) (values_282 : (List Int)) (it308 : Int) : Rx (List Int) :=
  grd ((-(2 ^ 64) < it308 ∧ it308 < 2 ^ 64) ∨ (-(2 ^ 64) < width_281 ∧ width_281 < 2 ^ 64)) <| grd ((-(2 ^ 64) < (it308 + 1) ∧ (it308 + 1) < 2 ^ 64) ∨ (-(2 ^ 64) < width_281 ∧ width_281 < 2 ^ 64)) <| .ok (cutL (values_282) (some ((it308 * width_281))) (some (((it308 + 1) * width_281))))

def F__law_plane_k4 (width_213 : Int) (height_214 : Int) (values_215 : (List Int)) : Rx (List (List Int)) :=
  grd (-(2 ^ 62) ≤ height_214 ∧ height_214 < 2 ^ 62) <| Rx.bind (mapA (rng (0) (Int.toNat (height_214))) [] (fun x => noEr (F__law_plane_c6 (width_213) (values_215) x))) fun v283 => .ok (v283)

def F__law_plane_k2 (width_149 : Int) (height_150 : Int) (top_151 : Int) (kind_152 : Int) (values_153 : (List Int)) : Rx (List (List Int)) :=
  Rx.bind (((if (kind_152 : Int) = 2 then Rx.bind (mapA (values_153) [] (fun x => noEr (F__law_plane_c5 (top_151) x))) fun v222 => .ok (v222) else .ok (values_153)) : Rx ((List Int)))) fun s => F__law_plane_k4 (width_149) (height_150) s

def F__law_plane_k1 (width_112 : Int) (height_113 : Int) (top_114 : Int) (kind_115 : Int) (values_116 : (List Int)) : Rx (List (List Int)) :=
  Rx.bind (((if (kind_115 : Int) = 1 then grd ((-(2 ^ 64) < width_112 ∧ width_112 < 2 ^ 64) ∨ (-(2 ^ 64) < height_113 ∧ height_113 < 2 ^ 64)) <| grd (-(2 ^ 62) ≤ (width_112 * height_113) ∧ (width_112 * height_113) < 2 ^ 62) <| Rx.bind (mapA (rng (0) (Int.toNat ((width_112 * height_113)))) [] (fun x => noEr (F__law_plane_c3 (top_114) (values_116) x))) fun v163 => .ok (v163) else .ok (values_116)) : Rx ((List Int)))) fun s => F__law_plane_k2 (width_112) (height_113) (top_114) (kind_115) s

def F__law_plane (cell' : Int) (width' : Int) (height' : Int) (top' : Int) : Rx (List (List Int)) :=
  bnd ((cell' % 4)) fun kind_82 => grd ((-(2 ^ 64) < width' ∧ width' < 2 ^ 64) ∨ (-(2 ^ 64) < height' ∧ height' < 2 ^ 64)) <| grd (-(2 ^ 63) ≤ (width' * height') ∧ (width' * height') < 2 ^ 63 ∧ ([(top' + 1)]).length * Int.toNat ((width' * height')) ≤ 1000000) <| Rx.bind (F__law_draws ((cell' / 4)) (repL ([(top' + 1)]) ((width' * height')))) fun v103 => Rx.bind (((if (kind_82 : Int) = 0 then grd (-((v103).length : Int) ≤ 0 ∧ 0 < ((v103).length : Int)) <| grd ((-(2 ^ 64) < width' ∧ width' < 2 ^ 64) ∨ (-(2 ^ 64) < height' ∧ height' < 2 ^ 64)) <| grd (-(2 ^ 63) ≤ (width' * height') ∧ (width' * height') < 2 ^ 63 ∧ ([(itD (v103) (0))]).length * Int.toNat ((width' * height')) ≤ 1000000) <| .ok (repL ([(itD (v103) (0))]) ((width' * height'))) else .ok (v103)) : Rx ((List Int)))) fun s => F__law_plane_k1 (width') (height') (top') (kind_82) s

def F__law_due_c3 (plane_443 : (List (List Int))) (x_444 : Int) (y_445 : Int) (it473 : Int) : Rx Int :=
  grd (-((plane_443).length : Int) ≤ (y_445 + it473) ∧ (y_445 + it473) < ((plane_443).length : Int)) <| grd (-(((itD (plane_443) ((y_445 + it473)))).length : Int) ≤ (x_444 - 1) ∧ (x_444 - 1) < (((itD (plane_443) ((y_445 + it473)))).length : Int)) <| .ok ((itD ((itD (plane_443) ((y_445 + it473)))) ((x_444 - 1))))

def F__law_due_k6 (above_600 : (List Int)) (left_601 : (List Int)) (corner_602 : Int) : Rx ((List Int) × (List Int) × Int) :=
  .ok ((above_600, left_601, corner_602))

def F__law_due_k5 (plane_554 : (List (List Int))) (x_555 : Int) (y_556 : Int) (up_557 : Bool) (side_558 : Bool) (left_559 : (List Int)) (above_560 : (List Int)) (corner_561 : Int) : Rx ((List Int) × (List Int) × Int) :=
  Rx.bind (((if up_557 = true then (if side_558 = true then grd (-((plane_554).length : Int) ≤ (y_556 - 1) ∧ (y_556 - 1) < ((plane_554).length : Int)) <| grd (-(((itD (plane_554) ((y_556 - 1)))).length : Int) ≤ (x_555 - 1) ∧ (x_555 - 1) < (((itD (plane_554) ((y_556 - 1)))).length : Int)) <| bnd ((itD ((itD (plane_554) ((y_556 - 1)))) ((x_555 - 1)))) fun corner_615 => .ok (corner_615) else .ok (corner_561)) else .ok (corner_561)) : Rx (Int))) fun s => F__law_due_k6 (above_560) (left_559) s

def F__law_due_k4 (plane_507 : (List (List Int))) (x_508 : Int) (y_509 : Int) (n_510 : Int) (up_511 : Bool) (side_512 : Bool) (above_513 : (List Int)) (left_514 : (List Int)) (corner_515 : Int) : Rx ((List Int) × (List Int) × Int) :=
  Rx.bind (((if side_512 = true then (if up_511 = true then .ok ((above_513), (corner_515)) else grd (-((left_514).length : Int) ≤ 0 ∧ 0 < ((left_514).length : Int)) <| grd (-(2 ^ 63) ≤ n_510 ∧ n_510 < 2 ^ 63 ∧ ([(itD (left_514) (0))]).length * Int.toNat (n_510) ≤ 1000000) <| grd (-((left_514).length : Int) ≤ 0 ∧ 0 < ((left_514).length : Int)) <| bnd ((itD (left_514) (0))) fun corner_591 => .ok ((repL ([(itD (left_514) (0))]) (n_510)), (corner_591))) else .ok ((above_513), (corner_515))) : Rx ((List Int) × Int))) fun s => F__law_due_k5 (plane_507) (x_508) (y_509) (up_511) (side_512) (left_514) (s.1) (s.2)

def F__law_due_k2 (plane_428 : (List (List Int))) (x_429 : Int) (y_430 : Int) (n_431 : Int) (up_432 : Bool) (side_433 : Bool) (above_434 : (List Int)) (corner_435 : Int) (left_436 : (List Int)) : Rx ((List Int) × (List Int) × Int) :=
  Rx.bind (((if up_432 = true then (if side_433 = true then .ok ((left_436), (corner_435)) else grd (-((above_434).length : Int) ≤ 0 ∧ 0 < ((above_434).length : Int)) <| grd (-(2 ^ 63) ≤ n_431 ∧ n_431 < 2 ^ 63 ∧ ([(itD (above_434) (0))]).length * Int.toNat (n_431) ≤ 1000000) <| grd (-((above_434).length : Int) ≤ 0 ∧ 0 < ((above_434).length : Int)) <| bnd ((itD (above_434) (0))) fun corner_545 => .ok ((repL ([(itD (above_434) (0))]) (n_431)), (corner_545))) else .ok ((left_436), (corner_435))) : Rx ((List Int) × Int))) fun s => F__law_due_k4 (plane_428) (x_429) (y_430) (n_431) (up_432) (side_433) (above_434) (s.1) (s.2)

def F__law_due_k1 (plane_389 : (List (List Int))) (x_390 : Int) (y_391 : Int) (n_392 : Int) (up_393 : Bool) (side_394 : Bool) (left_395 : (List Int)) (corner_396 : Int) (above_397 : (List Int)) : Rx ((List Int) × (List Int) × Int) :=
  Rx.bind (((if side_394 = true then grd (-(2 ^ 62) ≤ n_392 ∧ n_392 < 2 ^ 62) <| Rx.bind (mapA (rng (0) (Int.toNat (n_392))) [] (fun x => noEr (F__law_due_c3 (plane_389) (x_390) (y_391) x))) fun v446 => .ok (v446) else .ok (left_395)) : Rx ((List Int)))) fun s => F__law_due_k2 (plane_389) (x_390) (y_391) (n_392) (up_393) (side_394) (above_397) (corner_396) s

def F__law_due (plane' : (List (List Int))) (x' : Int) (y' : Int) (n' : Int) (first_row' : Int) (middle' : Int) : Rx ((List Int) × (List Int) × Int) :=
  bnd (decide (first_row' < y')) fun up_349 => bnd (decide (0 < x')) fun side_350 => grd (-(2 ^ 63) ≤ n' ∧ n' < 2 ^ 63 ∧ ([middle']).length * Int.toNat (n') ≤ 1000000) <| grd (-(2 ^ 63) ≤ n' ∧ n' < 2 ^ 63 ∧ ([middle']).length * Int.toNat (n') ≤ 1000000) <| Rx.bind (((if up_349 = true then grd (-((plane').length : Int) ≤ (y' - 1) ∧ (y' - 1) < ((plane').length : Int)) <| .ok (cutL ((itD (plane') ((y' - 1)))) (some (x')) (some ((x' + n')))) else .ok (repL ([middle']) (n'))) : Rx ((List Int)))) fun s => F__law_due_k1 (plane') (x') (y') (n') (up_349) (side_350) (repL ([middle']) (n')) (middle') s

def F_borders_c1 (x_677 : Int) (it718 : (List Int)) : Rx Int :=
  grd (-((it718).length : Int) ≤ (x_677 - 1) ∧ (x_677 - 1) < ((it718).length : Int)) <| .ok ((itD (it718) ((x_677 - 1))))

def F_borders_k3 (plane_783 : (List (List Int))) (x_784 : Int) (y_785 : Int) (has_above_786 : Bool) (has_left_787 : Bool) (above_788 : (List Int)) (left_789 : (List Int)) : Rx ((List Int) × (List Int) × Int) :=
  (if has_above_786 = true then (if has_left_787 = true then grd (-((plane_783).length : Int) ≤ (y_785 - 1) ∧ (y_785 - 1) < ((plane_783).length : Int)) <| grd (-(((itD (plane_783) ((y_785 - 1)))).length : Int) ≤ (x_784 - 1) ∧ (x_784 - 1) < (((itD (plane_783) ((y_785 - 1)))).length : Int)) <| .ok ((above_788, left_789, (itD ((itD (plane_783) ((y_785 - 1)))) ((x_784 - 1))))) else grd (-((left_789).length : Int) ≤ 0 ∧ 0 < ((left_789).length : Int)) <| .ok ((above_788, left_789, (itD (left_789) (0))))) else grd (-((left_789).length : Int) ≤ 0 ∧ 0 < ((left_789).length : Int)) <| .ok ((above_788, left_789, (itD (left_789) (0)))))

def F_borders_k2 (plane_738 : (List (List Int))) (x_739 : Int) (y_740 : Int) (n_741 : Int) (has_above_742 : Bool) (has_left_743 : Bool) (left_744 : (List Int)) (above_745 : (List Int)) : Rx ((List Int) × (List Int) × Int) :=
  Rx.bind (((if has_left_743 = true then .ok (left_744) else grd (-((above_745).length : Int) ≤ 0 ∧ 0 < ((above_745).length : Int)) <| grd (-(2 ^ 63) ≤ n_741 ∧ n_741 < 2 ^ 63 ∧ ([(itD (above_745) (0))]).length * Int.toNat (n_741) ≤ 1000000) <| .ok (repL ([(itD (above_745) (0))]) (n_741))) : Rx ((List Int)))) fun s => F_borders_k3 (plane_738) (x_739) (y_740) (has_above_742) (has_left_743) (above_745) s

def F_borders_k5 (plane_932 : (List (List Int))) (x_933 : Int) (y_934 : Int) (has_above_935 : Bool) (has_left_936 : Bool) (above_937 : (List Int)) (left_938 : (List Int)) : Rx ((List Int) × (List Int) × Int) :=
  (if has_above_935 = true then (if has_left_936 = true then grd (-((plane_932).length : Int) ≤ (y_934 - 1) ∧ (y_934 - 1) < ((plane_932).length : Int)) <| grd (-(((itD (plane_932) ((y_934 - 1)))).length : Int) ≤ (x_933 - 1) ∧ (x_933 - 1) < (((itD (plane_932) ((y_934 - 1)))).length : Int)) <| .ok ((above_937, left_938, (itD ((itD (plane_932) ((y_934 - 1)))) ((x_933 - 1))))) else grd (-((left_938).length : Int) ≤ 0 ∧ 0 < ((left_938).length : Int)) <| .ok ((above_937, left_938, (itD (left_938) (0))))) else grd (-((left_938).length : Int) ≤ 0 ∧ 0 < ((left_938).length : Int)) <| .ok ((above_937, left_938, (itD (left_938) (0)))))

def F_borders_k4 (plane_886 : (List (List Int))) (x_887 : Int) (y_888 : Int) (n_889 : Int) (has_above_890 : Bool) (has_left_891 : Bool) (left_892 : (List Int)) (above_893 : (List Int)) : Rx ((List Int) × (List Int) × Int) :=
  Rx.bind (((if has_left_891 = true then .ok (left_892) else grd (-((above_893).length : Int) ≤ 0 ∧ 0 < ((above_893).length : Int)) <| grd (-(2 ^ 63) ≤ n_889 ∧ n_889 < 2 ^ 63 ∧ ([(itD (above_893) (0))]).length * Int.toNat (n_889) ≤ 1000000) <| .ok (repL ([(itD (above_893) (0))]) (n_889))) : Rx ((List Int)))) fun s => F_borders_k5 (plane_886) (x_887) (y_888) (has_above_890) (has_left_891) (above_893) s

def F_borders_c6 (x_1046 : Int) (it1087 : (List Int)) : Rx Int :=
  grd (-((it1087).length : Int) ≤ (x_1046 - 1) ∧ (x_1046 - 1) < ((it1087).length : Int)) <| .ok ((itD (it1087) ((x_1046 - 1))))

def F_borders_k8 (plane_1152 : (List (List Int))) (x_1153 : Int) (y_1154 : Int) (has_above_1155 : Bool) (has_left_1156 : Bool) (above_1157 : (List Int)) (left_1158 : (List Int)) : Rx ((List Int) × (List Int) × Int) :=
  (if has_above_1155 = true then (if has_left_1156 = true then grd (-((plane_1152).length : Int) ≤ (y_1154 - 1) ∧ (y_1154 - 1) < ((plane_1152).length : Int)) <| grd (-(((itD (plane_1152) ((y_1154 - 1)))).length : Int) ≤ (x_1153 - 1) ∧ (x_1153 - 1) < (((itD (plane_1152) ((y_1154 - 1)))).length : Int)) <| .ok ((above_1157, left_1158, (itD ((itD (plane_1152) ((y_1154 - 1)))) ((x_1153 - 1))))) else grd (-((left_1158).length : Int) ≤ 0 ∧ 0 < ((left_1158).length : Int)) <| .ok ((above_1157, left_1158, (itD (left_1158) (0))))) else grd (-((left_1158).length : Int) ≤ 0 ∧ 0 < ((left_1158).length : Int)) <| .ok ((above_1157, left_1158, (itD (left_1158) (0)))))

def F_borders_k7 (plane_1107 : (List (List Int))) (x_1108 : Int) (y_1109 : Int) (n_1110 : Int) (has_above_1111 : Bool) (has_left_1112 : Bool) (left_1113 : (List Int)) (above_1114 : (List Int)) : Rx ((List Int) × (List Int) × Int) :=
  Rx.bind (((if has_left_1112 = true then .ok (left_1113) else grd (-((above_1114).length : Int) ≤ 0 ∧ 0 < ((above_1114).length : Int)) <| grd (-(2 ^ 63) ≤ n_1110 ∧ n_1110 < 2 ^ 63 ∧ ([(itD (above_1114) (0))]).length * Int.toNat (n_1110) ≤ 1000000) <| .ok (repL ([(itD (above_1114) (0))]) (n_1110))) : Rx ((List Int)))) fun s => F_borders_k8 (plane_1107) (x_1108) (y_1109) (has_above_1111) (has_left_1112) (above_1114) s

def F_borders_k10 (plane_1301 : (List (List Int))) (x_1302 : Int) (y_1303 : Int) (has_above_1304 : Bool) (has_left_1305 : Bool) (above_1306 : (List Int)) (left_1307 : (List Int)) : Rx ((List Int) × (List Int) × Int) :=
  (if has_above_1304 = true then (if has_left_1305 = true then grd (-((plane_1301).length : Int) ≤ (y_1303 - 1) ∧ (y_1303 - 1) < ((plane_1301).length : Int)) <| grd (-(((itD (plane_1301) ((y_1303 - 1)))).length : Int) ≤ (x_1302 - 1) ∧ (x_1302 - 1) < (((itD (plane_1301) ((y_1303 - 1)))).length : Int)) <| .ok ((above_1306, left_1307, (itD ((itD (plane_1301) ((y_1303 - 1)))) ((x_1302 - 1))))) else grd (-((left_1307).length : Int) ≤ 0 ∧ 0 < ((left_1307).length : Int)) <| .ok ((above_1306, left_1307, (itD (left_1307) (0))))) else grd (-((left_1307).length : Int) ≤ 0 ∧ 0 < ((left_1307).length : Int)) <| .ok ((above_1306, left_1307, (itD (left_1307) (0)))))

def F_borders_k9 (plane_1255 : (List (List Int))) (x_1256 : Int) (y_1257 : Int) (n_1258 : Int) (has_above_1259 : Bool) (has_left_1260 : Bool) (left_1261 : (List Int)) (above_1262 : (List Int)) : Rx ((List Int) × (List Int) × Int) :=
  Rx.bind (((if has_left_1260 = true then .ok (left_1261) else grd (-((above_1262).length : Int) ≤ 0 ∧ 0 < ((above_1262).length : Int)) <| grd (-(2 ^ 63) ≤ n_1258 ∧ n_1258 < 2 ^ 63 ∧ ([(itD (above_1262) (0))]).length * Int.toNat (n_1258) ≤ 1000000) <| .ok (repL ([(itD (above_1262) (0))]) (n_1258))) : Rx ((List Int)))) fun s => F_borders_k10 (plane_1255) (x_1256) (y_1257) (has_above_1259) (has_left_1260) (above_1262) s

def F_borders (plane' : (List (List Int))) (x' : Int) (y' : Int) (n' : Int) (first_row' : Int) (middle' : Int) : Rx ((List Int) × (List Int) × Int) :=
  bnd (decide (first_row' < y')) fun has_above_648 => bnd (decide (0 < x')) fun has_left_649 => (if has_above_648 = true then grd (-((plane').length : Int) ≤ (y' - 1) ∧ (y' - 1) < ((plane').length : Int)) <| (if has_left_649 = true then Rx.bind (mapA (cutL (plane') (some (y')) (some ((y' + n')))) [] (fun x => noEr (F_borders_c1 (x') x))) fun v678 => Rx.bind (((if has_above_648 = true then .ok (cutL ((itD (plane') ((y' - 1)))) (some (x')) (some ((x' + n')))) else grd (has_left_649 = true → (-((v678).length : Int) ≤ 0 ∧ 0 < ((v678).length : Int))) <| grd (-(2 ^ 63) ≤ n' ∧ n' < 2 ^ 63 ∧ ([(if has_left_649 = true then (itD (v678) (0)) else middle')]).length * Int.toNat (n') ≤ 1000000) <| .ok (repL ([(if has_left_649 = true then (itD (v678) (0)) else middle')]) (n'))) : Rx ((List Int)))) fun s => F_borders_k2 (plane') (x') (y') (n') (has_above_648) (has_left_649) (v678) s else Rx.bind (((if has_above_648 = true then .ok (cutL ((itD (plane') ((y' - 1)))) (some (x')) (some ((x' + n')))) else grd (has_left_649 = true → (-((([] : (List Int))).length : Int) ≤ 0 ∧ 0 < ((([] : (List Int))).length : Int))) <| grd (-(2 ^ 63) ≤ n' ∧ n' < 2 ^ 63 ∧ ([(if has_left_649 = true then (itD (([] : (List Int))) (0)) else middle')]).length * Int.toNat (n') ≤ 1000000) <| .ok (repL ([(if has_left_649 = true then (itD (([] : (List Int))) (0)) else middle')]) (n'))) : Rx ((List Int)))) fun s => F_borders_k4 (plane') (x') (y') (n') (has_above_648) (has_left_649) (([] : (List Int))) s) else (if has_left_649 = true then Rx.bind (mapA (cutL (plane') (some (y')) (some ((y' + n')))) [] (fun x => noEr (F_borders_c6 (x') x))) fun v1047 => Rx.bind (((if has_above_648 = true then .ok (([] : (List Int))) else grd (has_left_649 = true → (-((v1047).length : Int) ≤ 0 ∧ 0 < ((v1047).length : Int))) <| grd (-(2 ^ 63) ≤ n' ∧ n' < 2 ^ 63 ∧ ([(if has_left_649 = true then (itD (v1047) (0)) else middle')]).length * Int.toNat (n') ≤ 1000000) <| .ok (repL ([(if has_left_649 = true then (itD (v1047) (0)) else middle')]) (n'))) : Rx ((List Int)))) fun s => F_borders_k7 (plane') (x') (y') (n') (has_above_648) (has_left_649) (v1047) s else Rx.bind (((if has_above_648 = true then .ok (([] : (List Int))) else grd (has_left_649 = true → (-((([] : (List Int))).length : Int) ≤ 0 ∧ 0 < ((([] : (List Int))).length : Int))) <| grd (-(2 ^ 63) ≤ n' ∧ n' < 2 ^ 63 ∧ ([(if has_left_649 = true then (itD (([] : (List Int))) (0)) else middle')]).length * Int.toNat (n') ≤ 1000000) <| .ok (repL ([(if has_left_649 = true then (itD (([] : (List Int))) (0)) else middle')]) (n'))) : Rx ((List Int)))) fun s => F_borders_k9 (plane') (x') (y') (n') (has_above_648) (has_left_649) (([] : (List Int))) s))

def F__law_cell (script' : (List Int)) (k' : Int) : Rx Int :=
  (if k' < (((script') : (List Int)).length : Int) then grd (-((script').length : Int) ≤ k' ∧ k' < ((script').length : Int)) <| .ok ((itD (script') (k'))) else .ok (0))

def F_law_c2 (it1513 : (List Int)) : Rx (List Int) :=
  .ok it1513

def F_law_k1 (script_1420 : (List Int)) (draws_1421 : (List Int)) (width_1422 : Int) (height_1423 : Int) (n_1424 : Int) : Rx Bool :=
  grd (-((draws_1421).length : Int) ≤ 3 ∧ 3 < ((draws_1421).length : Int)) <| grd (0 < ((width_1422 - n_1424) + 1)) <| bnd (((itD (draws_1421) (3)) % ((width_1422 - n_1424) + 1))) fun x_1439 => grd (-((draws_1421).length : Int) ≤ 4 ∧ 4 < ((draws_1421).length : Int)) <| grd (0 < ((height_1423 - n_1424) + 1)) <| bnd (((itD (draws_1421) (4)) % ((height_1423 - n_1424) + 1))) fun y_1442 => grd (-((draws_1421).length : Int) ≤ 6 ∧ 6 < ((draws_1421).length : Int)) <| grd (0 < (y_1442 + 1)) <| grd (-((draws_1421).length : Int) ≤ 5 ∧ 5 < ((draws_1421).length : Int)) <| grd (-(([y_1442, 0, ((itD (draws_1421) (6)) % (y_1442 + 1)), y_1442]).length : Int) ≤ (itD (draws_1421) (5)) ∧ (itD (draws_1421) (5)) < (([y_1442, 0, ((itD (draws_1421) (6)) % (y_1442 + 1)), y_1442]).length : Int)) <| bnd ((itD ([y_1442, 0, ((itD (draws_1421) (6)) % (y_1442 + 1)), y_1442]) ((itD (draws_1421) (5))))) fun first_row_1457 => grd (-((draws_1421).length : Int) ≤ 7 ∧ 7 < ((draws_1421).length : Int)) <| grd ((0 : Int) ≤ (8 + (itD (draws_1421) (7))) ∧ (8 + (itD (draws_1421) (7))) ≤ 4096 ∧ -(2 ^ 4096) < (1 : Int) ∧ (1 : Int) < 2 ^ 4096) <| bnd (((1 * 2 ^ Int.toNat ((8 + (itD (draws_1421) (7))))) - 1)) fun top_1460 => Rx.bind (F__law_cell (script_1420) 1) fun v1461 => Rx.bind (F__law_plane v1461 width_1422 height_1423 top_1460) fun v1462 => Rx.bind (mapA (v1462) [] (fun x => noEr (F_law_c2  x))) fun v1476 => Rx.bind (F__law_due (v1476) x_1439 y_1442 n_1424 first_row_1457 (((top_1460 + 1) / 2))) fun v1548 => Rx.bind (F_borders (v1462) x_1439 y_1442 n_1424 first_row_1457 (((top_1460 + 1) / 2))) fun v1570 => (if (v1570 : ((List Int) × (List Int) × Int)) = v1548 then (if (v1462 : (List (List Int))) = v1476 then grd ((v1570.1).length ≤ 1000000) <| bnd ((v1570.1) ++ [1]) fun y1596 => grd ((v1548.1).length + ([1]).length ≤ 1000000) <| (if (y1596 : (List Int)) = (v1548.1) ++ ([1]) then (if (v1570.2.1 : (List Int)) = v1548.2.1 then grd (-((v1570.2.1).length : Int) ≤ 0 ∧ 0 < ((v1570.2.1).length : Int)) <| bnd (setL (v1570.2.1) (0) ((-5))) fun y1629 => grd ((v1548.1).length + ([1]).length ≤ 1000000) <| (if (y1596 : (List Int)) = (v1548.1) ++ ([1]) then grd (([(-5)]).length + (cutL (v1548.2.1) (some (1)) none).length ≤ 1000000) <| (if (y1629 : (List Int)) = ([(-5)]) ++ (cutL (v1548.2.1) (some (1)) none) then Rx.bind (F_borders (v1462) x_1439 y_1442 n_1424 first_row_1457 (((top_1460 + 1) / 2))) fun v1684 => (if decide ((v1684 : ((List Int) × (List Int) × Int)) = v1548) = true then (if decide ((v1462 : (List (List Int))) = v1476) = true then .ok (true) else .ok (false)) else .ok (false)) else .ok (false)) else .ok (false)) else .ok (false)) else .ok (false)) else .ok (false)) else .ok (false))

def F_law (script' : (List Int)) : Rx Bool :=
  Rx.bind (F__law_cell (script') 0) fun v1397 => Rx.bind (F__law_draws v1397 ([6, 6, 2, 24, 24, 4, 24, 5])) fun v1407 => grd (-((v1407).length : Int) ≤ 0 ∧ 0 < ((v1407).length : Int)) <| bnd ((4 + (4 * (itD (v1407) (0))))) fun width_1417 => grd (-((v1407).length : Int) ≤ 1 ∧ 1 < ((v1407).length : Int)) <| bnd ((4 + (4 * (itD (v1407) (1))))) fun height_1419 => Rx.bind ((grd (-((v1407).length : Int) ≤ 2 ∧ 2 < ((v1407).length : Int)) <| (if ((itD (v1407) (2)) : Int) = 1 then (if 8 ≤ width_1417 then (if 8 ≤ height_1419 then .ok (8) else .ok (4)) else .ok (4)) else .ok (4)) : Rx (Int))) fun s => F_law_k1 (script') (v1407) (width_1417) (height_1419) s
theorem cell_gv (s : List Int) (k : Int) (h : 0 ≤ k) : Gv (F__law_cell s k) (fun _ => True) := by
  unfold F__law_cell
  exact Gv.ite (fun c => Gv.grd ⟨by omega, c⟩ (.ok trivial)) fun _ => .ok trivial
def Inb : List Int → List Int → Prop
  | [], [] => True
  | v :: vs, l :: ls => 0 ≤ v ∧ v < l ∧ Inb vs ls
  | _, _ => False
theorem Inb.snoc : ∀ {vs ls : List Int} {y l : Int}, Inb vs ls → 0 ≤ y → y < l → Inb (vs ++ [y]) (ls ++ [l])
  | [], [], _, _, _, h0, h1 => ⟨h0, h1, trivial⟩
  | _ :: _, _ :: _, _, _, h, h0, h1 => ⟨h.1, h.2.1, Inb.snoc h.2.2 h0 h1⟩
  | [], _ :: _, _, _, h, _, _ => h.elim
  | _ :: _, [], _, _, h, _, _ => h.elim
theorem Inb.len : ∀ {vs ls : List Int}, Inb vs ls → vs.length = ls.length
  | [], [], _ => rfl
  | _ :: _, _ :: _, h => congrArg Nat.succ (Inb.len h.2.2)
  | [], _ :: _, h => h.elim
  | _ :: _, [], h => h.elim
theorem Inb.cons {v ls : List Int} {l : Int} (h : Inb v (l :: ls)) : ∃ a r, v = a :: r ∧ 0 ≤ a ∧ a < l ∧ Inb r ls := by
  cases v with
  | nil => exact h.elim
  | cons a r => exact ⟨a, r, rfl, h.1, h.2.1, h.2.2⟩
theorem Inb.nil {v : List Int} (h : Inb v []) : v = [] := by
  cases v with
  | nil => rfl
  | cons a r => exact h.elim
theorem draws_gv (cell : Int) (limits : List Int) (hl : ∀ l ∈ limits, 0 < l ∧ l < 18446744073709551616) (hn : limits.length ≤ 1000000) : Gv (F__law_draws cell limits) (fun v => Inb v limits) := by
  unfold F__law_draws
  refine Gv.bnd fun rest _ => Gv.bnd fun state _ => Gv.bnd fun free _ => Gv.bind (Gv.forS (P := fun i s => Inb s.1 (limits.take i)) ?_ fun i x s hx p => ?_) fun s p => .ok ?_
  · rw [List.take_zero]
    trivial
  · have hb0 := hl x (List.mem_of_getElem? hx)
    have hb : 0 < x ∧ x < 2 ^ 128 := ⟨hb0.1, by omega⟩
    have hlen := p.len
    have hi := get_len hx
    rw [List.length_take] at hlen
    have nx : ∀ y : Int, 0 ≤ y → y < x → Inb (s.1 ++ [y]) (limits.take (i + 1)) := fun y h0 h1 => by
      rw [take_succ_get hx]
      exact p.snoc h0 h1
    unfold F__law_draws_b1
    refine Gv.ite (fun _ => Gv.ite (fun _ => Gv.grd hb.1 (Gv.grd (by omega) (Gv.bnd fun y hy => Gv.grd ⟨hb.1, hb.2⟩ (Gv.bnd fun _ _ => .ok ?_)))) fun _ => Gv.bnd fun _ _ => Gv.bnd fun _ _ => Gv.grd hb.1 (Gv.grd (by omega) (Gv.bnd fun y hy => .ok ?_))) fun _ => Gv.bnd fun _ _ => Gv.bnd fun _ _ => Gv.grd hb.1 (Gv.grd (by omega) (Gv.bnd fun y hy => .ok ?_))
    · subst hy
      exact nx _ (Int.emod_nonneg _ (by omega)) (Int.emod_lt_of_pos _ hb.1)
    · subst hy
      exact nx _ (Int.emod_nonneg _ (by omega)) (Int.emod_lt_of_pos _ hb.1)
    · subst hy
      exact nx _ (Int.emod_nonneg _ (by omega)) (Int.emod_lt_of_pos _ hb.1)
  · rw [List.take_length] at p
    exact p
theorem ixg {xs : List Int} {k : Int} {n : Nat} (e : xs.length = n) (h : -(n : Int) ≤ k ∧ k < n) : -(xs.length : Int) ≤ k ∧ k < xs.length := by
  rw [e]
  exact h
theorem itD_lit {xs : List Int} {a k : Int} (n : Nat) (e : k = (n : Int)) (h : xs[n]? = some a) : itD xs k = a := by
  subst e
  have hl := get_len h
  unfold itD atI ixN
  rw [if_pos (by omega), if_pos (by omega)]
  show (xs[n]?).getD default = a
  rw [h]
  rfl
theorem one_4096 : -(2 ^ 4096) < (1 : Int) ∧ (1 : Int) < 2 ^ 4096 := by
  have h : (0 : Int) < 2 ^ 4095 := Int.pow_pos (by decide)
  have e : (2 : Int) ^ 4096 = 2 ^ 4095 * 2 := Int.pow_succ 2 4095
  generalize (2 : Int) ^ 4095 = z at h e
  generalize (2 : Int) ^ 4096 = y at e ⊢
  omega
theorem top_b {d : Int} (h0 : 0 ≤ d) (h1 : d < 5) : 255 ≤ 1 * 2 ^ Int.toNat (8 + d) - (1 : Int) ∧ 1 * 2 ^ Int.toNat (8 + d) - (1 : Int) ≤ 4095 := by
  have : d = 0 ∨ d = 1 ∨ d = 2 ∨ d = 3 ∨ d = 4 := by omega
  rcases this with rfl | rfl | rfl | rfl | rfl <;> decide
theorem sIx_in {n d : Nat} {v : Int} (h0 : 0 ≤ v) (h1 : v ≤ n) : HT.sIx n d (some v) = v.toNat := by
  show (if v < 0 then (v + (n : Int)).toNat else min v.toNat n) = v.toNat
  rw [if_neg (by omega)]
  omega
theorem itD_nat {α : Type} [Inhabited α] {xs : List α} {k : Int} (n : Nat) (e : k = (n : Int)) {a : α} (h : xs[n]? = some a) : itD xs k = a := by
  subst e
  have hl := get_len h
  unfold itD atI ixN
  rw [if_pos (by omega), if_pos (by omega)]
  show (xs[n]?).getD default = a
  rw [h]
  rfl
theorem rng_at' {lo : Int} {n i : Nat} (h : i < n) : (rng lo n)[i]? = some (lo + (i : Int)) := rng_get h
theorem cut_rng {α : Type} [Inhabited α] {xs : List α} {a n : Int} (h0 : 0 ≤ a) (hn : 0 ≤ n) (h1 : a + n ≤ xs.length) : cutL xs (some a) (some (a + n)) = (rng 0 n.toNat).map (fun j => itD xs (a + j)) := by
  unfold cutL
  rw [sIx_in h0 (by omega), sIx_in (by omega) h1]
  apply List.ext_getElem?
  intro i
  by_cases hi : i < n.toNat
  · rw [List.getElem?_take_of_lt (by omega), List.getElem?_drop, List.getElem?_map, rng_get hi]
    have hl : a.toNat + i < xs.length := by omega
    rw [List.getElem?_eq_getElem hl]
    show some _ = some (itD xs (a + (0 + (i : Int))))
    rw [itD_nat (a.toNat + i) (by omega) (List.getElem?_eq_getElem hl)]
  · rw [List.getElem?_eq_none (by rw [List.length_take, List.length_drop]; omega), List.getElem?_eq_none (by rw [List.length_map, rng_len]; omega)]
theorem cut_len {α : Type} {xs : List α} {a b : Int} (h0 : 0 ≤ a) (hn : a ≤ b) (h1 : b ≤ xs.length) : ((cutL xs (some a) (some b)).length : Int) = b - a := by
  unfold cutL
  rw [sIx_in h0 (by omega), sIx_in (by omega) h1, List.length_take, List.length_drop]
  omega
theorem rep1 {α : Type} (a : α) (n : Int) : repL [a] n = List.replicate n.toNat a := by
  unfold repL
  induction n.toNat with
  | zero => rfl
  | succ k ih => rw [List.replicate_succ, List.flatten_cons, ih, List.replicate_succ]; rfl
theorem rep1_len {α : Type} (a : α) {n : Int} (h : 0 ≤ n) : ((repL [a] n).length : Int) = n := by
  rw [rep1, List.length_replicate]
  omega
theorem rep1_at {α : Type} [Inhabited α] (a : α) {n : Int} (h : 0 < n) : itD (repL [a] n) 0 = a := by
  rw [rep1]
  obtain ⟨k, hk⟩ : ∃ k, n.toNat = k + 1 := ⟨n.toNat - 1, by omega⟩
  rw [hk, List.replicate_succ]
  exact itD_nat 0 rfl rfl
theorem rep1_mem {α : Type} {a b : α} {n : Int} (h : b ∈ repL [a] n) : b = a := by
  rw [rep1] at h
  exact List.eq_of_mem_replicate h
theorem itD_mem {α : Type} [Inhabited α] {xs : List α} {k : Int} (h0 : 0 ≤ k) (h1 : k < xs.length) : itD xs k ∈ xs := by
  have hl : k.toNat < xs.length := by omega
  rw [itD_nat k.toNat (by omega) (List.getElem?_eq_getElem hl)]
  exact List.getElem_mem hl
/-- a plane: rows and columns -/
structure Good (P : List (List Int)) (W H : Int) : Prop where
  len : (P.length : Int) = H
  row : ∀ r ∈ P, (r.length : Int) = W
theorem Good.at {P : List (List Int)} {W H k : Int} (g : Good P W H) (h0 : 0 ≤ k) (h1 : k < H) : ((itD P k).length : Int) = W := g.row _ (itD_mem h0 (by rw [g.len]; exact h1))
theorem gd {α : Type} {xs : List α} {k n : Int} (e : (xs.length : Int) = n) (h0 : 0 ≤ k) (h1 : k < n) : -(xs.length : Int) ≤ k ∧ k < (xs.length : Int) := by omega
theorem gr {n : Int} {a : Int} (h0 : 0 ≤ n) (h1 : n ≤ 1000000) : -(2 ^ 63) ≤ n ∧ n < 2 ^ 63 ∧ ([a] : List Int).length * Int.toNat n ≤ 1000000 := by
  refine ⟨by omega, by omega, ?_⟩
  show 1 * n.toNat ≤ 1000000
  omega
theorem plane_gv (cell W H top : Int) (hw : 1 ≤ W ∧ W ≤ 24) (hh : 1 ≤ H ∧ H ≤ 24) (ht : 0 ≤ top ∧ top ≤ 4095) : Gv (F__law_plane cell W H top) (fun P => Good P W H) := by
  have n0 : 0 < W * H := Int.mul_pos (by omega) (by omega)
  have n1 : W * H ≤ 24 * 24 := Int.mul_le_mul hw.2 hh.2 (by omega) (by omega)
  have mw : (-(2 ^ 64) < W ∧ W < 2 ^ 64) ∨ (-(2 ^ 64) < H ∧ H < 2 ^ 64) := .inl ⟨by omega, by omega⟩
  unfold F__law_plane
  refine Gv.bnd fun kind _ => Gv.grd mw (Gv.grd (gr (by omega) (by omega)) (Gv.bind (draws_gv _ _ (fun l hl => ?_) ?_) fun v hv => ?_))
  · rw [rep1_mem hl]
    omega
  · have := rep1_len (top + 1) (show 0 ≤ W * H by omega)
    omega
  have vl : (v.length : Int) = W * H := by
    rw [hv.len]
    exact rep1_len _ (by omega)
  refine Gv.bind (P := fun s => (s.length : Int) = W * H) (Gv.ite (fun _ => Gv.grd (gd vl (by decide) n0) (Gv.grd mw (Gv.grd (gr (by omega) (by omega)) (.ok (rep1_len _ (by omega)))))) fun _ => .ok vl) fun s1 h1 => ?_
  unfold F__law_plane_k1
  refine Gv.bind (P := fun s => (s.length : Int) = W * H) (Gv.ite (fun _ => Gv.grd mw (Gv.grd ⟨by omega, by omega⟩ ?_)) fun _ => .ok h1) fun s2 h2 => ?_
  · refine Gv.bind_eq (mapA_pure0 (g := fun x => (itD s1 0 + 7 * x) % (top + 1)) (fun x _ => ?_) (by rw [rng_len]; omega)) (.ok ?_)
    · unfold F__law_plane_c3
      rw [grd_pos (gd h1 (by decide) n0), grd_pos (by omega)]
      rfl
    · rw [List.length_map, rng_len]
      omega
  unfold F__law_plane_k2
  refine Gv.bind (P := fun s => (s.length : Int) = W * H) (Gv.ite (fun _ => ?_) fun _ => .ok h2) fun s3 h3 => ?_
  · refine Gv.bind_eq (mapA_pure0 (g := fun x => top * (x % 2)) (fun x _ => ?_) (by omega)) (.ok ?_)
    · unfold F__law_plane_c5
      rw [grd_pos (.inl ⟨by omega, by omega⟩)]
      rfl
    · rw [List.length_map]
      exact h2
  unfold F__law_plane_k4
  refine Gv.grd ⟨by omega, by omega⟩ (Gv.bind_eq (mapA_pure0 (g := fun x => cutL s3 (some (x * W)) (some ((x + 1) * W))) (fun x hx => ?_) (by rw [rng_len]; omega)) (.ok ⟨?_, ?_⟩))
  · unfold F__law_plane_c6
    rw [grd_pos (.inr ⟨by omega, by omega⟩), grd_pos (.inr ⟨by omega, by omega⟩)]
    rfl
  · rw [List.length_map, rng_len]
    omega
  · intro r hr
    obtain ⟨x, hx, rfl⟩ := List.mem_map.mp hr
    have b := rng_mem hx
    have e : (x + 1) * W = x * W + W := by rw [Int.add_mul, Int.one_mul]
    have m0 : 0 ≤ x * W := Int.mul_nonneg (by omega) (by omega)
    have m1 : (x + 1) * W ≤ H * W := Int.mul_le_mul_of_nonneg_right (by omega) (by omega)
    rw [cut_len m0 (by omega) (by rw [h3, Int.mul_comm W H]; exact m1)]
    omega
section
variable {P : List (List Int)} {W H x y n m : Int} (g : Good P W H) (hx : 0 ≤ x) (hy : 0 ≤ y) (hxn : x + n ≤ W) (hyn : y + n ≤ H) (hn : 0 < n) (hn8 : n ≤ 8)
include g hx hy hxn hyn hn hn8
/-- the samples above, to the left -/
def abv (P : List (List Int)) (x y n : Int) : List Int := cutL (itD P (y - 1)) (some x) (some (x + n))
def lft (P : List (List Int)) (x y n : Int) : List Int := (rng 0 n.toNat).map fun j => itD (itD P (y + j)) (x - 1)
theorem abv_len (h1 : 1 ≤ y) : ((abv P x y n).length : Int) = n := by
  unfold abv
  rw [cut_len hx (by omega) (by rw [g.at (by omega) (by omega)]; exact hxn)]
  omega
theorem lft_len : ((lft P x y n).length : Int) = n := by
  unfold lft
  rw [List.length_map, rng_len]
  omega
theorem left_b (h1 : 1 ≤ x) {f : Int → List Int → Rx Int} (hf : ∀ r, f x r = grd (-((r).length : Int) ≤ (x - 1) ∧ (x - 1) < ((r).length : Int)) (.ok (itD r (x - 1)))) :
    mapA (cutL P (some y) (some (y + n))) [] (fun r => noEr (f x r)) = .ok (lft P x y n) := by
  rw [cut_rng hy (by omega) (by rw [g.len]; exact hyn)]
  rw [mapA_pure0 (g := fun r => itD r (x - 1)) ?_ (by rw [List.length_map, rng_len]; omega), List.map_map]
  · rfl
  · intro r hr
    obtain ⟨j, hj, rfl⟩ := List.mem_map.mp hr
    have b := rng_mem hj
    rw [hf, grd_pos (gd (g.at (by omega) (by omega)) (by omega) (by omega))]
    rfl
theorem left_d (h1 : 1 ≤ x) : mapA (rng 0 (Int.toNat n)) [] (fun j => noEr (F__law_due_c3 P x y j)) = .ok (lft P x y n) := by
  rw [mapA_pure0 (g := fun j => itD (itD P (y + j)) (x - 1)) ?_ (by rw [rng_len]; omega)]
  · rfl
  · intro j hj
    have b := rng_mem hj
    unfold F__law_due_c3
    rw [grd_pos (gd g.len (by omega) (by omega)), grd_pos (gd (g.at (by omega) (by omega)) (by omega) (by omega))]
    rfl
def bor (P : List (List Int)) (x y n m : Int) (u s : Bool) : List Int × List Int × Int :=
  match u, s with
  | true, true => (abv P x y n, lft P x y n, itD (itD P (y - 1)) (x - 1))
  | true, false => (abv P x y n, repL [itD (abv P x y n) 0] n, itD (abv P x y n) 0)
  | false, true => (repL [itD (lft P x y n) 0] n, lft P x y n, itD (lft P x y n) 0)
  | false, false => (repL [m] n, repL [m] n, m)
theorem bor_len (h1 : u = true → 1 ≤ y) : ((bor P x y n m u s).1.length : Int) = n ∧ ((bor P x y n m u s).2.1.length : Int) = n := by
  have nn : 0 ≤ n := by omega
  cases u <;> cases s
  · exact ⟨rep1_len _ nn, rep1_len _ nn⟩
  · exact ⟨rep1_len _ nn, lft_len g hx hy hxn hyn hn hn8⟩
  · exact ⟨abv_len g hx hy hxn hyn hn hn8 (h1 rfl), rep1_len _ nn⟩
  · exact ⟨abv_len g hx hy hxn hyn hn hn8 (h1 rfl), lft_len g hx hy hxn hyn hn hn8⟩
theorem due_ok {fr : Int} (hf : 0 ≤ fr) : F__law_due P x y n fr m = .ok (bor P x y n m (decide (fr < y)) (decide (0 < x))) := by
  refine Gv.get ?_
  unfold F__law_due
  have r0 : -(2 ^ 62) ≤ n ∧ n < 2 ^ 62 := ⟨by omega, by omega⟩
  refine Gv.bnd fun u hu => Gv.bnd fun s hs => Gv.grd (gr (by omega) (by omega)) (Gv.grd (gr (by omega) (by omega)) ?_)
  rw [← hu, ← hs]
  have hu1 : u = true → 1 ≤ y := fun e => by
    rw [e] at hu
    have := of_decide_eq_true hu.symm
    omega
  have hs1 : s = true → 1 ≤ x := fun e => by
    rw [e] at hs
    have := of_decide_eq_true hs.symm
    omega
  have al := fun e => abv_len g hx hy hxn hyn hn hn8 (hu1 e)
  have ll := lft_len g hx hy hxn hyn hn hn8
  clear hu hs
  cases u <;> cases s
  · refine Gv.bind_eq rfl ?_
    unfold F__law_due_k1
    refine Gv.bind_eq rfl ?_
    unfold F__law_due_k2
    refine Gv.bind_eq rfl ?_
    unfold F__law_due_k4
    refine Gv.bind_eq rfl ?_
    unfold F__law_due_k5
    exact Gv.bind_eq rfl (.ok rfl)
  · refine Gv.bind_eq rfl ?_
    unfold F__law_due_k1
    refine Gv.bind_eq (a := lft P x y n) (by rw [if_pos rfl, grd_pos r0, left_d g hx hy hxn hyn hn hn8 (hs1 rfl), bind_ok]) ?_
    unfold F__law_due_k2
    refine Gv.bind_eq rfl ?_
    unfold F__law_due_k4
    refine Gv.bind_eq (a := (repL [itD (lft P x y n) 0] n, itD (lft P x y n) 0)) (by rw [if_pos rfl, if_neg Bool.false_ne_true, grd_pos (gd ll (by decide) hn), grd_pos (gr (by omega) (by omega)), grd_pos (gd ll (by decide) hn)]; rfl) ?_
    unfold F__law_due_k5
    exact Gv.bind_eq rfl (.ok rfl)
  · refine Gv.bind_eq (a := abv P x y n) (by rw [if_pos rfl, grd_pos (gd g.len (by have := hu1 rfl; omega) (by omega))]; rfl) ?_
    unfold F__law_due_k1
    refine Gv.bind_eq rfl ?_
    unfold F__law_due_k2
    refine Gv.bind_eq (a := (repL [itD (abv P x y n) 0] n, itD (abv P x y n) 0)) (by rw [if_pos rfl, if_neg Bool.false_ne_true, grd_pos (gd (al rfl) (by decide) hn), grd_pos (gr (by omega) (by omega)), grd_pos (gd (al rfl) (by decide) hn)]; rfl) ?_
    unfold F__law_due_k4
    refine Gv.bind_eq rfl ?_
    unfold F__law_due_k5
    exact Gv.bind_eq rfl (.ok rfl)
  · have y1 := hu1 rfl
    have x1 := hs1 rfl
    refine Gv.bind_eq (a := abv P x y n) (by rw [if_pos rfl, grd_pos (gd g.len (by omega) (by omega))]; rfl) ?_
    unfold F__law_due_k1
    refine Gv.bind_eq (a := lft P x y n) (by rw [if_pos rfl, grd_pos r0, left_d g hx hy hxn hyn hn hn8 x1, bind_ok]) ?_
    unfold F__law_due_k2
    refine Gv.bind_eq rfl ?_
    unfold F__law_due_k4
    refine Gv.bind_eq rfl ?_
    unfold F__law_due_k5
    refine Gv.bind_eq (a := itD (itD P (y - 1)) (x - 1)) (by rw [if_pos rfl, if_pos rfl, grd_pos (gd g.len (by omega) (by omega)), grd_pos (gd (g.at (by omega) (by omega)) (by omega) (by omega))]; rfl) (.ok rfl)
theorem borders_ok {fr : Int} (hf : 0 ≤ fr) : F_borders P x y n fr m = .ok (bor P x y n m (decide (fr < y)) (decide (0 < x))) := by
  refine Gv.get ?_
  unfold F_borders
  refine Gv.bnd fun u hu => Gv.bnd fun s hs => ?_
  rw [← hu, ← hs]
  have hu1 : u = true → 1 ≤ y := fun e => by
    rw [e] at hu
    have := of_decide_eq_true hu.symm
    omega
  have hs1 : s = true → 1 ≤ x := fun e => by
    rw [e] at hs
    have := of_decide_eq_true hs.symm
    omega
  have al := fun e => abv_len g hx hy hxn hyn hn hn8 (hu1 e)
  have ll := lft_len g hx hy hxn hyn hn hn8
  clear hu hs
  cases u <;> cases s
  · refine Gv.neg Bool.false_ne_true (Gv.neg Bool.false_ne_true (Gv.bind_eq (a := repL [m] n) (by rw [if_neg Bool.false_ne_true, grd_pos (fun e => nomatch e), grd_pos (gr (by omega) (by omega)), if_neg Bool.false_ne_true]) ?_))
    unfold F_borders_k9
    refine Gv.bind_eq (a := repL [m] n) (by rw [if_neg Bool.false_ne_true, grd_pos (gd (rep1_len m (by omega)) (by decide) hn), grd_pos (gr (by omega) (by omega)), rep1_at m hn]) ?_
    unfold F_borders_k10
    refine Gv.neg Bool.false_ne_true (Gv.grd (gd (rep1_len m (by omega)) (by decide) hn) (.ok ?_))
    rw [rep1_at m hn]
    rfl
  · refine Gv.neg Bool.false_ne_true (Gv.pos rfl (Gv.bind_eq (left_b g hx hy hxn hyn hn hn8 (hs1 rfl) (f := F_borders_c6) (fun _ => rfl)) (Gv.bind_eq (a := repL [itD (lft P x y n) 0] n) (by rw [if_neg Bool.false_ne_true, grd_pos (fun _ => gd ll (by decide) hn), grd_pos (gr (by omega) (by omega)), if_pos rfl]) ?_)))
    unfold F_borders_k7
    refine Gv.bind_eq rfl ?_
    unfold F_borders_k8
    exact Gv.neg Bool.false_ne_true (Gv.grd (gd ll (by decide) hn) (.ok rfl))
  · refine Gv.pos rfl (Gv.grd (gd g.len (by have := hu1 rfl; omega) (by omega)) (Gv.neg Bool.false_ne_true (Gv.bind_eq (a := abv P x y n) (by rw [if_pos rfl]; rfl) ?_)))
    unfold F_borders_k4
    refine Gv.bind_eq (a := repL [itD (abv P x y n) 0] n) (by rw [if_neg Bool.false_ne_true, grd_pos (gd (al rfl) (by decide) hn), grd_pos (gr (by omega) (by omega))]) ?_
    unfold F_borders_k5
    refine Gv.pos rfl (Gv.neg Bool.false_ne_true (Gv.grd (gd (rep1_len _ (by omega)) (by decide) hn) (.ok ?_)))
    rw [rep1_at _ hn]
    rfl
  · have y1 := hu1 rfl
    have x1 := hs1 rfl
    refine Gv.pos rfl (Gv.grd (gd g.len (by omega) (by omega)) (Gv.pos rfl (Gv.bind_eq (left_b g hx hy hxn hyn hn hn8 x1 (f := F_borders_c1) (fun _ => rfl)) (Gv.bind_eq (a := abv P x y n) (by rw [if_pos rfl]; rfl) ?_))))
    unfold F_borders_k2
    refine Gv.bind_eq rfl ?_
    unfold F_borders_k3
    exact Gv.pos rfl (Gv.pos rfl (Gv.grd (gd g.len (by omega) (by omega)) (Gv.grd (gd (g.at (by omega) (by omega)) (by omega) (by omega)) (.ok rfl))))
end
theorem set_cut {l : List Int} (h : 0 < l.length) (b : Int) : setL l 0 b = [b] ++ cutL l (some 1) none := by
  cases l with
  | nil => exact absurd h (Nat.lt_irrefl 0)
  | cons a r =>
    unfold setL cutL
    rw [sIx_in (by decide) (by rw [List.length_cons]; omega)]
    show (a :: r).set ((ixN (r.length + 1) 0).getD 0) b = b :: ((a :: r).drop 1).take (HT.sIx (r.length + 1) (r.length + 1) none - 1)
    unfold ixN
    rw [if_pos (by decide), if_pos (by omega), HT.sIx_none]
    show b :: r = b :: r.take (r.length + 1 - 1)
    rw [show r.length + 1 - 1 = r.length by omega, List.take_length]
theorem k1_ok {xs : List Int} {a0 a1 a2 a3 a4 a5 a6 a7 W H n : Int} (h5 : 0 ≤ a5 ∧ a5 < 4) (h7 : 0 ≤ a7 ∧ a7 < 5) (hw : 4 ≤ W ∧ W ≤ 24) (hh : 4 ≤ H ∧ H ≤ 24) (hn : 0 < n ∧ n ≤ 8) (hnw : n ≤ W) (hnh : n ≤ H) :
    F_law_k1 xs [a0, a1, a2, a3, a4, a5, a6, a7] W H n = .ok true := by
  refine Gv.get ?_
  unfold F_law_k1
  rw [itD_lit (k := 3) (a := a3) 3 rfl rfl, itD_lit (k := 4) (a := a4) 4 rfl rfl, itD_lit (k := 5) (a := a5) 5 rfl rfl, itD_lit (k := 6) (a := a6) 6 rfl rfl, itD_lit (k := 7) (a := a7) 7 rfl rfl]
  have d8 : ∀ k : Int, 0 ≤ k → k < 8 → -(([a0, a1, a2, a3, a4, a5, a6, a7] : List Int).length : Int) ≤ k ∧ k < ([a0, a1, a2, a3, a4, a5, a6, a7] : List Int).length := fun k h0 h1 => gd (n := 8) rfl h0 h1
  refine Gv.grd (d8 3 (by decide) (by decide)) (Gv.grd (by omega) (Gv.bnd fun x hx => Gv.grd (d8 4 (by decide) (by decide)) (Gv.grd (by omega) (Gv.bnd fun y hy => ?_))))
  have x0 : 0 ≤ x := by rw [hx]; exact Int.emod_nonneg _ (by omega)
  have x1 : x < W - n + 1 := by rw [hx]; exact Int.emod_lt_of_pos _ (by omega)
  have y0 : 0 ≤ y := by rw [hy]; exact Int.emod_nonneg _ (by omega)
  have y1 : y < H - n + 1 := by rw [hy]; exact Int.emod_lt_of_pos _ (by omega)
  refine Gv.grd (d8 6 (by decide) (by decide)) (Gv.grd (by omega) (Gv.grd (d8 5 (by decide) (by decide)) (Gv.grd (gd (n := 4) rfl h5.1 h5.2) (Gv.bnd fun fr hfr => ?_))))
  have z6 : 0 ≤ a6 % (y + 1) := Int.emod_nonneg _ (by omega)
  have fr0 : 0 ≤ fr := by
    have : a5 = 0 ∨ a5 = 1 ∨ a5 = 2 ∨ a5 = 3 := by omega
    rcases this with e | e | e | e
    · rw [hfr, itD_lit (a := y) 0 e rfl]; exact y0
    · rw [hfr, itD_lit (a := 0) 1 e rfl]; decide
    · rw [hfr, itD_lit (a := a6 % (y + 1)) 2 e rfl]; exact z6
    · rw [hfr, itD_lit (a := y) 3 e rfl]; exact y0
  refine Gv.grd (d8 7 (by decide) (by decide)) (Gv.grd ⟨by omega, by omega, one_4096⟩ (Gv.bnd fun top htop => ?_))
  have tb := top_b h7.1 h7.2
  rw [← htop] at tb
  refine Gv.bind (cell_gv xs 1 (by decide)) fun c _ => Gv.bind (plane_gv c W H top (by omega) (by omega) (by omega)) fun P g => ?_
  refine Gv.bind_eq (mapA_pure0 (g := fun r => r) (fun r _ => rfl) (by have := g.len; omega)) ?_
  rw [show P.map (fun r => r) = P from List.map_id' P]
  have hb := borders_ok (m := (top + 1) / 2) g x0 y0 (by omega) (by omega) hn.1 hn.2 fr0
  have hd := due_ok (m := (top + 1) / 2) g x0 y0 (by omega) (by omega) hn.1 hn.2 fr0
  have hl := bor_len (m := (top + 1) / 2) (u := decide (fr < y)) (s := decide (0 < x)) g x0 y0 (by omega) (by omega) hn.1 hn.2 (fun e => by have := of_decide_eq_true e; omega)
  generalize bor P x y n ((top + 1) / 2) (decide (fr < y)) (decide (0 < x)) = T at hb hd hl
  have l1 : (T.2.1.length : Int) = n := hl.2
  have c1 := cutL_len T.2.1 (some 1) none
  refine Gv.bind_eq hd (Gv.bind_eq hb (Gv.pos rfl (Gv.pos rfl (Gv.grd (by omega) (Gv.bnd fun z hz => Gv.grd (by show _ + 1 ≤ _; omega) (Gv.pos hz (Gv.pos rfl (Gv.grd (gd l1 (by decide) hn.1) (Gv.bnd fun q hq => Gv.grd (by show _ + 1 ≤ _; omega) (Gv.pos hz (Gv.grd (by show 1 + _ ≤ _; omega) (Gv.pos ?_ (Gv.bind_eq hb (Gv.pos (decide_eq_true rfl) (Gv.pos (decide_eq_true rfl) (.ok rfl))))))))))))))))
  rw [hq]
  exact set_cut (by omega) _
theorem law_true (xs : List Int) (h : xs.length ≤ 63) : F_law xs = .ok true := by
  refine Gv.get ?_
  unfold F_law
  refine Gv.bind (cell_gv xs 0 (by decide)) fun cell _ => Gv.bind (draws_gv _ _ (by decide +kernel) (by decide +kernel)) fun v hv => ?_
  obtain ⟨a0, r0, rfl, b0, c0, hv⟩ := hv.cons
  obtain ⟨a1, r1, rfl, b1, c1, hv⟩ := hv.cons
  obtain ⟨a2, r2, rfl, b2, c2, hv⟩ := hv.cons
  obtain ⟨a3, r3, rfl, b3, c3, hv⟩ := hv.cons
  obtain ⟨a4, r4, rfl, b4, c4, hv⟩ := hv.cons
  obtain ⟨a5, r5, rfl, b5, c5, hv⟩ := hv.cons
  obtain ⟨a6, r6, rfl, b6, c6, hv⟩ := hv.cons
  obtain ⟨a7, r7, rfl, b7, c7, hv⟩ := hv.cons
  obtain rfl := hv.nil
  have d8 : ∀ k : Int, 0 ≤ k → k < 8 → -(([a0, a1, a2, a3, a4, a5, a6, a7] : List Int).length : Int) ≤ k ∧ k < ([a0, a1, a2, a3, a4, a5, a6, a7] : List Int).length := fun k h0 h1 => gd (n := 8) rfl h0 h1
  rw [itD_lit (k := 0) (a := a0) 0 rfl rfl, itD_lit (k := 1) (a := a1) 1 rfl rfl, itD_lit (k := 2) (a := a2) 2 rfl rfl]
  refine Gv.grd (d8 0 (by decide) (by decide)) (Gv.bnd fun W hW => Gv.grd (d8 1 (by decide) (by decide)) (Gv.bnd fun H hH => ?_))
  refine Gv.bind (P := fun n => (0 < n ∧ n ≤ 8) ∧ n ≤ W ∧ n ≤ H) (Gv.grd (d8 2 (by decide) (by decide)) (Gv.ite (fun _ => Gv.ite (fun _ => Gv.ite (fun _ => .ok ⟨⟨by decide, by decide⟩, by omega, by omega⟩) fun _ => .ok ⟨⟨by decide, by decide⟩, by omega, by omega⟩) fun _ => .ok ⟨⟨by decide, by decide⟩, by omega, by omega⟩) fun _ => .ok ⟨⟨by decide, by decide⟩, by omega, by omega⟩)) fun n hn => ?_
  exact .of_eq (k1_ok ⟨b5, c5⟩ ⟨b7, c7⟩ (by omega) (by omega) hn.1 hn.2.1 hn.2.2) rfl

end Vx
namespace Vx
open PySem PySem.Spec PyProof.Rows L2
def topS (i : Nat) : Stmt := PySem.Challenge.pw_thaumatrope_k29_borders_of_areas.main.body.getD i (.Pass ⟨0, 0, 0, 0⟩)
abbrev s__law_draws : Stmt := topS 4
abbrev s__law_plane : Stmt := topS 5
abbrev s__law_due : Stmt := topS 6
abbrev s_borders : Stmt := topS 1
abbrev s__law_cell : Stmt := topS 3
abbrev s_law : Stmt := topS 7
structure Ads where
  z0 : Addr
def excA (AD : Ads) : Nat → Addr
  | _ => AD.z0
structure Txt (K : PySem.W.Frag) (mg : Str → Option Value) (AD : Ads) : Prop where
  b_abs : mg "abs" = none
  b_int : mg "int" = none
  b_range : mg "range" = none
  b_len : mg "len" = none
  b_list : mg "list" = none
  b_isinstance : mg "isinstance" = none
  b_tuple : mg "tuple" = none
abbrev pat__law_draws_0 : Pat := (2, [], fun vs _ => vs)
abbrev pats__law_draws : List Pat := [pat__law_draws_0]
abbrev pat__law_plane_0 : Pat := (4, [], fun vs _ => vs)
abbrev pats__law_plane : List Pat := [pat__law_plane_0]
abbrev pat__law_due_0 : Pat := (6, [], fun vs _ => vs)
abbrev pats__law_due : List Pat := [pat__law_due_0]
abbrev pat_borders_0 : Pat := (4, ["first_row", "middle"], fun vs zs => match vs, zs with | [a0, a1, a2, a3], [b0, b1] => [a0, a1, a2, a3, b0, b1] | _, _ => [])
abbrev pats_borders : List Pat := [pat_borders_0]
abbrev pat__law_cell_0 : Pat := (2, [], fun vs _ => vs)
abbrev pats__law_cell : List Pat := [pat__law_cell_0]
abbrev pats_law : List Pat := []
def sp__law_draws (K : PySem.W.Frag) (AD : Ads) : Sp := fun vs H Q E => ∃ (G : Hp) (cell' : Int) (a_limits : Addr) (limits' : List Int), vs = [.int cell', .ref a_limits] ∧ Same G H ∧ (hideL [] H) a_limits = some (.lst ((limits' : List Int).map V.int)) ∧ cW (F__law_draws cell' limits') (fun v => ∀ p H', H p = none → Same H H' → H' p = some (.lst (v.map V.int)) → Q (.ref p) H') (fun e => ∀ H', Same H H' → E (.ref (excA AD e)) none H')
def sp__law_plane (K : PySem.W.Frag) (AD : Ads) : Sp := fun vs H Q E => ∃ (G : Hp) (cell' : Int) (width' : Int) (height' : Int) (top' : Int), vs = [.int cell', .int width', .int height', .int top'] ∧ Same G H ∧ cW (F__law_plane cell' width' height' top') (fun v => ∀ u H' G', Same H H' → Same G G' → Same G' H' → (∀ b, H b ≠ none → G b = none → G' b = none) → Rp G' u ((encL (encL PyData.int)) v) → Q u H') (fun e => ∀ H', Same H H' → E (.ref (excA AD e)) none H')
def sp__law_due (K : PySem.W.Frag) (AD : Ads) : Sp := fun vs H Q E => ∃ (G : Hp) (v_plane : V) (plane' : (List (List Int))) (x' : Int) (y' : Int) (n' : Int) (first_row' : Int) (middle' : Int), vs = [v_plane, .int x', .int y', .int n', .int first_row', .int middle'] ∧ Same G H ∧ Rp G v_plane ((encL (encL PyData.int)) plane') ∧ cW (F__law_due plane' x' y' n' first_row' middle') (fun v => ∀ u H' G', Same H H' → Same G G' → Same G' H' → (∀ b, H b ≠ none → G b = none → G' b = none) → Rp G' u ((encT3 (encL PyData.int) (encL PyData.int) PyData.int) v) → Q u H') (fun e => ∀ H', Same H H' → E (.ref (excA AD e)) none H')
def sp_borders (K : PySem.W.Frag) (AD : Ads) : Sp := fun vs H Q E => ∃ (G : Hp) (v_plane : V) (plane' : (List (List Int))) (x' : Int) (y' : Int) (n' : Int) (first_row' : Int) (middle' : Int), vs = [v_plane, .int x', .int y', .int n', .int first_row', .int middle'] ∧ Same G H ∧ Rp G v_plane ((encL (encL PyData.int)) plane') ∧ cW (F_borders plane' x' y' n' first_row' middle') (fun v => ∀ (H' : Hp) (t_ l_0 l_1 : Addr), Same H H' → H t_ = none → H l_0 = none → H l_1 = none → l_0 ≠ l_1 → H' t_ = some (.tup [V.ref l_0, V.ref l_1, V.int v.2.2]) → H' l_0 = some (.lst (v.1.map V.int)) → H' l_1 = some (.lst (v.2.1.map V.int)) → Q (.ref t_) H') (fun e => ∀ H', Same H H' → E (.ref (excA AD e)) none H')
def sp__law_cell (K : PySem.W.Frag) (AD : Ads) : Sp := fun vs H Q E => ∃ (G : Hp) (a_script : Addr) (script' : List Int) (k' : Int), vs = [.ref a_script, .int k'] ∧ Same G H ∧ SqL K H a_script ((script' : List Int).map V.int) ∧ cW (F__law_cell script' k') (fun v => Q (.int v) H) (fun e => E (.ref (excA AD e)) none H)
def sp_law (K : PySem.W.Frag) (AD : Ads) : Sp := fun vs H Q E => ∃ (a_script : Addr) (script : List Int), vs = [.ref a_script] ∧ SqL K H a_script (script.map V.int) ∧ cW (F_law script) (fun v => v = true) (fun _ => False) ∧ ∀ H', Q (.bl true) H'
section
variable {P : Program} {w : World} {K : PySem.W.Frag} {mg : Str → Option Value} {base : Heap} {AD : Ads}
abbrev N__law_draws : List Str := ["cell", "limits", "found", "rest", "state", "free", "limit"]
theorem sc__law_draws : FnScope N__law_draws ["cell", "limits"] (defScope s__law_draws) := ⟨rfl, rfl, rfl, by decide +kernel, rfl, by decide +kernel, by decide +kernel⟩
theorem ok__law_draws (D : DefX K mg "_law_draws" s__law_draws ["cell", "limits"] pats__law_draws) (T : Txt K mg AD)  : CalX P w K mg base 1 "_law_draws" (sp__law_draws K AD) pats__law_draws := by
  refine D.ok sc__law_draws (fun vs H Q E h => ?_) (fun f cdv A_ outer s H vs Q E hr h => ?_)
  · obtain ⟨G, cell', a_limits, limits', rfl, _⟩ := h
    rfl
  · obtain ⟨G, cell', a_limits, limits', rfl, sG, q_limits, hw⟩ := h
    refine ⟨_, (pss_cons (ps_set (i := 2) sc__law_draws.nd rfl (Or.inl rfl) (pe_lst pa_nil))
      (pss_cons (ps_set (i := 3) sc__law_draws.nd rfl (Or.inl rfl) (pe_callB call_abs (by rfl) T.b_abs (by decide +kernel) (pa_cons (pe_callTy call_int1 (by rfl) T.b_int (by decide +kernel) (pa_cons (pv 0) pa_nil)) pa_nil)))
      (pss_cons (ps_set (i := 4) sc__law_draws.nd rfl (Or.inl rfl) (pe_op op_mod (pe_callTy call_int1 (by rfl) T.b_int (by decide +kernel) (pa_cons (pv 3) pa_nil)) pe_int))
      (pss_cons (ps_set (i := 5) sc__law_draws.nd rfl (Or.inl rfl) (pe_or (pe_cmp (pc_lt (pv 0) pe_int)) (pe_one (pe_cmp (pc_ge (pv 0) (pe_op op_pow pe_int pe_int))))))
      (pss_cons (ps_for (passes_of rfl) rfl (pi_listK (K := K) (pv 1)) (pg_name (i := 6) sc__law_draws.nd rfl (Or.inl rfl)) (pss_one (ps_if (PW.pt (pw_and (pt_val (pv 5)) (pw_and1 (pt_cmp (pc_gt (pv 3) pe_int))))) (pss_cons (ps_expr (pe_bm PySem.F.plainAttrs_list PySem.F.slot_list_append PySem.F.type_list_append mt_append (pv 2) (pa_cons (pe_op op_mod (pe_callTy call_int1 (by rfl) T.b_int (by decide +kernel) (pa_cons (pv 3) pa_nil)) (pv 6)) pa_nil)))
      (pss_one (ps_set (i := 3) sc__law_draws.nd rfl (Or.inl rfl) (pe_op op_fdivW (pv 3) (pv 6))))) (pss_cons (ps_set (i := 4) sc__law_draws.nd rfl (Or.inl rfl) (pe_op op_mod (pe_callTy call_int1 (by rfl) T.b_int (by decide +kernel) (pa_cons (pe_op op_add (pe_op op_mul (pv 4) pe_int) pe_int) pa_nil)) pe_int))
      (pss_cons (ps_set (i := 4) sc__law_draws.nd rfl (Or.inl rfl) (pe_op op_mod (pe_callTy call_int1 (by rfl) T.b_int (by decide +kernel) (pa_cons (pe_op op_add (pe_op op_mul (pv 4) pe_int) pe_int) pa_nil)) pe_int))
      (pss_one (ps_expr (pe_bm PySem.F.plainAttrs_list PySem.F.slot_list_append PySem.F.type_list_append mt_append (pv 2) (pa_cons (pe_op op_mod (pe_callTy call_int1 (by rfl) T.b_int (by decide +kernel) (pa_cons (pe_op op_fdivW (pv 4) pe_int) pa_nil)) (pv 6)) pa_nil)))))))))
      (pss_one (ps_ret (pv 2)))))))), ?_⟩
    obtain ⟨KK, EE, hK0, hE, hw⟩ := cW_gen hw
    have S0 := Sep.startG sG
    unfold F__law_draws at hw
    refine ⟨(by show 0 ≤ sizeLine; decide), fun p1 n2 => ?_⟩
    generalize g3 : upd H p1 _ = H4
    obtain ⟨e5, h6⟩ := gen_new n2 g3
    have h7 : H4 p1 = some (.lst ((([] : (List Int)) : (List Int)).map V.int)) := h6
    have fr8 := S0.free n2
    have S9 := S0.new n2 e5 h7 fr8
    refine ⟨_, rfl, .inl ⟨_, rfl, ?_⟩⟩
    refine ⟨_, rfl, ?_⟩
    have hw := cW_bnd hw
    refine ⟨_, rfl, .inl ⟨_, rfl, ?_⟩⟩
    refine ⟨_, _, rfl, rfl, (show (0 : Int) < 2147483647 by decide), ?_⟩
    have hw := cW_bnd hw
    refine vv_or (ta := (tLt (tVar 0) (tC (V.int 0)))) (tb := (tGe (tVar 0) (tOp (rI CPow fun i j => V.int (i ^ j.toNat)) (tC (V.int 10)) (tC (V.int 18))))) (a := decide (cell' < 0)) (b := decide (((10 : Int) ^ Int.toNat 18) ≤ cell')) ?ha12 ?hb13 _ ?_
    case ha12 => exact (vv_cmp (val_var rfl) val_c (fun Q q => ⟨_, _, rfl, rfl, q⟩))
    case hb13 => exact (vv_cmp (val_var rfl) (val_op val_c val_c (fun Q q => ⟨_, _, rfl, rfl, ⟨by decide, by decide, by decide⟩, q⟩)) (fun Q q => ⟨_, _, rfl, rfl, q⟩))
    have hw := cW_bnd hw
    obtain ⟨K16, hK17, hw⟩ := cW_push hw
    refine ⟨_, rfl, _, rfl, ⟨_, (SqL.of (S9.bM _ _ q_limits))⟩, for_list (K := K) (a := a_limits) (xs := (limits' : List Int).map V.int) (fun i σ H' => ∃ (found_18 : (List Int)) (rest_19 : Int) (state_20 : Int) (u21 : Option V) (G' : Hp), σ = [some (V.int (cell')), some (V.ref a_limits), some (V.ref p1), some (V.int rest_19), some (V.int state_20), some (V.bl ((decide (cell' < 0) || decide (((10 : Int) ^ Int.toNat 18) ≤ cell')))), u21] ∧ Same G G' ∧ Sep [] H G G' H' [p1] ∧ H' p1 = some (.lst ((found_18 : (List Int)).map V.int)) ∧ cW (forS (List.drop i (limits')) (found_18, rest_19, state_20) (fun s x => F__law_draws_b1 ((decide (cell' < 0) || decide (((10 : Int) ^ Int.toNat 18) ≤ cell'))) (s.1) (s.2.1) (s.2.2) x)) K16 EE) ?_ ?_ ?_ ?_⟩
    · exact ⟨(([] : (List Int))), ((if cell' < 0 then -cell' else cell')), (((if cell' < 0 then -cell' else cell') % 2147483647)), _, _, rfl, (Same.refl _), S9, h7, hw⟩
    · intro i σ H22 _ hw
      obtain ⟨found_18, rest_19, state_20, u21, G25, rfl, eG26, S23, h24, hw⟩ := hw
      exact (SqL.of (S23.bM _ _ q_limits))
    · intro i x σ H27 hj hw
      obtain ⟨found_18, rest_19, state_20, u21, G30, rfl, eG31, S28, h29, hw⟩ := hw
      obtain ⟨x32, hx, rfl⟩ := map_get hj
      have hw := cW_forS hx hw
      have hw : cW (F__law_draws_b1 ((decide (cell' < 0) || decide (((10 : Int) ^ Int.toNat 18) ≤ cell'))) (found_18) (rest_19) (state_20) (x32)) _ EE := hw
      unfold F__law_draws_b1 at hw
      obtain ⟨K36, hK37, hw⟩ := cW_name hw
      refine ⟨_, rfl, _, rfl, ?_⟩
      refine iteB (fun c39 => ?_) (fun c39 => ?_)
      · have hw := cW_pos c39 hw
        refine ⟨_, rfl, _, _, rfl, rfl, _, rfl, ?_⟩
        refine iteD (fun c40 => ?_) (fun c40 => ?_)
        · have hw := cW_pos c40 hw
          refine ⟨_, rfl, (.inl ⟨rfl, _, SqL.of h29⟩), _, rfl, .inl ⟨_, rfl, ?_⟩⟩
          obtain ⟨g41, hw⟩ := cW_grd hw
          obtain ⟨g42, hw⟩ := cW_grd hw
          refine ⟨_, rfl, _, _, rfl, rfl, g41, _, _, _, rfl, rfl, h29, (app_lenM g42), ?_⟩
          generalize g43 : upd H27 p1 _ = H44
          obtain ⟨x45, h46⟩ := gen_mut g43
          have h47 : H44 p1 = some (.lst (((found_18) ++ [(rest_19 % x32)] : (List Int)).map V.int)) := snoc_map h46
          have S48 := S28.mut1 x45 (.head _) h47
          have hw := cW_bnd hw
          obtain ⟨g50, hw⟩ := cW_grd hw
          refine ⟨_, rfl, _, rfl, _, _, rfl, rfl, (divW_small g50.1 g50.2), ?_⟩
          have hw := cW_bnd hw
          have hw := cW_ok hw
          have hw := hK37 _ hw
          exact ⟨((found_18) ++ [(rest_19 % x32)]), ((rest_19 / x32)), (state_20), _, _, rfl, eG31, S48, h47, hw⟩
        · have hw := cW_neg c40 hw
          refine ⟨_, rfl, _, _, rfl, rfl, (.inr ⟨by decide, by decide⟩), _, _, rfl, rfl, .inl ⟨_, rfl, ?_⟩⟩
          refine ⟨_, _, rfl, rfl, (show (0 : Int) < 2147483647 by decide), ?_⟩
          have hw := cW_bnd hw
          refine ⟨_, rfl, _, _, rfl, rfl, (.inr ⟨by decide, by decide⟩), _, _, rfl, rfl, .inl ⟨_, rfl, ?_⟩⟩
          refine ⟨_, _, rfl, rfl, (show (0 : Int) < 2147483647 by decide), ?_⟩
          have hw := cW_bnd hw
          refine ⟨_, rfl, (.inl ⟨rfl, _, SqL.of h29⟩), _, rfl, _, _, rfl, rfl, (divW_lit (by decide) (by decide)), .inl ⟨_, rfl, ?_⟩⟩
          obtain ⟨g54, hw⟩ := cW_grd hw
          obtain ⟨g55, hw⟩ := cW_grd hw
          refine ⟨_, rfl, _, _, rfl, rfl, g54, _, _, _, rfl, rfl, h29, (app_lenM g55), ?_⟩
          generalize g56 : upd H27 p1 _ = H57
          obtain ⟨x58, h59⟩ := gen_mut g56
          have h60 : H57 p1 = some (.lst (((found_18) ++ [((((((((state_20 * 48271) + 11) % 2147483647) * 69621) + 7) % 2147483647) / 13) % x32)] : (List Int)).map V.int)) := snoc_map h59
          have S61 := S28.mut1 x58 (.head _) h60
          have hw := cW_bnd hw
          have hw := cW_ok hw
          have hw := hK37 _ hw
          exact ⟨((found_18) ++ [((((((((state_20 * 48271) + 11) % 2147483647) * 69621) + 7) % 2147483647) / 13) % x32)]), (rest_19), (((((((state_20 * 48271) + 11) % 2147483647) * 69621) + 7) % 2147483647)), _, _, rfl, eG31, S61, h60, hw⟩
      · have hw := cW_negB c39 hw
        refine iteF ?_
        refine ⟨_, rfl, _, _, rfl, rfl, (.inr ⟨by decide, by decide⟩), _, _, rfl, rfl, .inl ⟨_, rfl, ?_⟩⟩
        refine ⟨_, _, rfl, rfl, (show (0 : Int) < 2147483647 by decide), ?_⟩
        have hw := cW_bnd hw
        refine ⟨_, rfl, _, _, rfl, rfl, (.inr ⟨by decide, by decide⟩), _, _, rfl, rfl, .inl ⟨_, rfl, ?_⟩⟩
        refine ⟨_, _, rfl, rfl, (show (0 : Int) < 2147483647 by decide), ?_⟩
        have hw := cW_bnd hw
        refine ⟨_, rfl, (.inl ⟨rfl, _, SqL.of h29⟩), _, rfl, _, _, rfl, rfl, (divW_lit (by decide) (by decide)), .inl ⟨_, rfl, ?_⟩⟩
        obtain ⟨g65, hw⟩ := cW_grd hw
        obtain ⟨g66, hw⟩ := cW_grd hw
        refine ⟨_, rfl, _, _, rfl, rfl, g65, _, _, _, rfl, rfl, h29, (app_lenM g66), ?_⟩
        generalize g67 : upd H27 p1 _ = H68
        obtain ⟨x69, h70⟩ := gen_mut g67
        have h71 : H68 p1 = some (.lst (((found_18) ++ [((((((((state_20 * 48271) + 11) % 2147483647) * 69621) + 7) % 2147483647) / 13) % x32)] : (List Int)).map V.int)) := snoc_map h70
        have S72 := S28.mut1 x69 (.head _) h71
        have hw := cW_bnd hw
        have hw := cW_ok hw
        have hw := hK37 _ hw
        exact ⟨((found_18) ++ [((((((((state_20 * 48271) + 11) % 2147483647) * 69621) + 7) % 2147483647) / 13) % x32)]), (rest_19), (((((((state_20 * 48271) + 11) % 2147483647) * 69621) + 7) % 2147483647)), _, _, rfl, eG31, S72, h71, hw⟩
    · intro σ H74 hw
      obtain ⟨found_18, rest_19, state_20, u21, G77, rfl, eG78, S75, h76, hw⟩ := hw
      have hw := hK17 _ (cW_forS0 (by rw [List.length_map]) hw)
      have hw : cW (F__law_draws_r1  (found_18) (rest_19) (state_20)) _ EE := hw
      unfold F__law_draws_r1 at hw
      refine ⟨_, rfl, ?_⟩
      have hw := cW_ok hw
      exact hK0 _ hw _ _ fr8 S75.b0 h76

abbrev N__law_plane : List Str := ["cell", "width", "height", "top", "kind", "values", "k", "value", "y"]
theorem sc__law_plane : FnScope N__law_plane ["cell", "width", "height", "top"] (defScope s__law_plane) := ⟨rfl, rfl, rfl, by decide +kernel, rfl, by decide +kernel, by decide +kernel⟩
theorem ok__law_plane (D : DefX K mg "_law_plane" s__law_plane ["cell", "width", "height", "top"] pats__law_plane) (T : Txt K mg AD) (c__law_draws : CalX P w K mg base 1 "_law_draws" (sp__law_draws K AD) pats__law_draws) : CalX P w K mg base 2 "_law_plane" (sp__law_plane K AD) pats__law_plane := by
  refine D.ok sc__law_plane (fun vs H Q E h => ?_) (fun f cdv A_ outer s H vs Q E hr h => ?_)
  · obtain ⟨G, cell', width', height', top', rfl, _⟩ := h
    rfl
  · obtain ⟨G, cell', width', height', top', rfl, sG, hw⟩ := h
    refine ⟨_, (pss_cons (ps_set (i := 4) sc__law_plane.nd rfl (Or.inl rfl) (pe_op op_mod (pe_callTy call_int1 (by rfl) T.b_int (by decide +kernel) (pa_cons (pv 0) pa_nil)) pe_int))
      (pss_cons (ps_set (i := 5) sc__law_plane.nd rfl (Or.inr rfl) (vx_callX c__law_draws pat__law_draws_0 (.head _) hr (by decide) (takes_of rfl rfl rfl rfl) rfl (pa_cons (pe_op op_fdivW (pe_callTy call_int1 (by rfl) T.b_int (by decide +kernel) (pa_cons (pv 0) pa_nil)) pe_int) (pa_cons (pe_op op_rep (pe_lst (pa_cons (pe_op op_add (pv 3) pe_int) pa_nil)) (pe_op op_mul (pv 1) (pv 2))) pa_nil)) pk_nil))
      (C8.pss_cut (ps_if (pt_cmp (pc_eqI (pv 4) pe_int)) (pss_one (ps_set (i := 5) sc__law_plane.nd rfl (Or.inr rfl) (pe_op op_rep (pe_lst (pa_cons (pe_ix (ix_listK (K := K)) (pv 5) pe_int (fun _ _ => rfl)) pa_nil)) (pe_op op_mul (pv 1) (pv 2))))) pss_nil)
      (C8.pss_cut (ps_if (pt_cmp (pc_eqI (pv 4) pe_int)) (pss_one (ps_set (i := 5) sc__law_plane.nd rfl (Or.inr rfl) (pe_lc (own := [("k", 6)]) (g := gName 6) (by rfl) sc__law_plane.nd (pi_range1 rfl T.b_range (pa_cons (pe_op op_mul (pv 1) (pv 2)) pa_nil)) (blkOk_by (own := [("k", 6)]) (N := N__law_plane) (sc := defScope s__law_plane) (by decide +kernel)) (fun _ _ _ _ _ => (pg_name (i := 6) sc__law_plane.nd rfl (Or.inl rfl))) (fun _ _ _ _ _ => pts_nil) (fun _ _ _ _ _ => (pe_op op_mod (pe_callTy call_int1 (by rfl) T.b_int (by decide +kernel) (pa_cons (pe_op op_add (pe_ix (ix_listK (K := K)) (pv 5) pe_int (fun _ _ => rfl)) (pe_op op_mul pe_int (pv 6))) pa_nil)) (pe_op op_add (pv 3) pe_int)))))) pss_nil)
      (C8.pss_cut (ps_if (pt_cmp (pc_eqI (pv 4) pe_int)) (pss_one (ps_set (i := 5) sc__law_plane.nd rfl (Or.inr rfl) (pe_lc (own := [("value", 7)]) (g := gName 7) (by rfl) sc__law_plane.nd (pi_listK (K := K) (pv 5)) (blkOk_by (own := [("value", 7)]) (N := N__law_plane) (sc := defScope s__law_plane) (by decide +kernel)) (fun _ _ _ _ _ => (pg_name (i := 7) sc__law_plane.nd rfl (Or.inl rfl))) (fun _ _ _ _ _ => pts_nil) (fun _ _ _ _ _ => (pe_op op_mul (pv 3) (pe_callTy call_int1 (by rfl) T.b_int (by decide +kernel) (pa_cons (pe_op op_mod (pe_callTy call_int1 (by rfl) T.b_int (by decide +kernel) (pa_cons (pv 7) pa_nil)) pe_int) pa_nil))))))) pss_nil)
      (pss_one (ps_ret (pe_lc (own := [("y", 8)]) (g := gName 8) (by rfl) sc__law_plane.nd (pi_range1 rfl T.b_range (pa_cons (pv 2) pa_nil)) (blkOk_by (own := [("y", 8)]) (N := N__law_plane) (sc := defScope s__law_plane) (by decide +kernel)) (fun _ _ _ _ _ => (pg_name (i := 8) sc__law_plane.nd rfl (Or.inl rfl))) (fun _ _ _ _ _ => pts_nil) (fun _ _ _ _ _ => (pe_slice (sl_listK (K := K)) (pv 5) (po_some (pe_op op_mul (pv 8) (pv 1))) (po_some (pe_op op_mul (pe_op op_add (pv 8) pe_int) (pv 1))))))))))))), ?_⟩
    obtain ⟨KK, EE, hK0, hE, hw⟩ := cW_gen hw
    have S0 := Sep.startG sG
    unfold F__law_plane at hw
    refine ⟨_, rfl, .inl ⟨_, rfl, ?_⟩⟩
    refine ⟨_, _, rfl, rfl, (show (0 : Int) < 4 by decide), ?_⟩
    have hw := cW_bnd hw
    refine ⟨_, rfl, .inl ⟨_, rfl, ?_⟩⟩
    refine ⟨_, _, rfl, rfl, (divW_lit (by decide) (by decide)), _, rfl, _, _, rfl, rfl, (by show 1 ≤ sizeLine; decide), fun p83 n84 => ?_⟩
    generalize g85 : upd H p83 _ = H86
    obtain ⟨e87, h88⟩ := gen_new n84 g85
    have h89 : H86 p83 = some (.lst (([(top' + 1)] : (List Int)).map V.int)) := h88
    have fr90 := S0.free n84
    have S91 := S0.new n84 e87 h89 fr90
    obtain ⟨g92, hw⟩ := cW_grd hw
    obtain ⟨g93, hw⟩ := cW_grd hw
    refine ⟨_, rfl, _, rfl, _, _, rfl, rfl, g92, _, _, _, rfl, rfl, h89, g93.1, g93.2.1, (rep_lenM g93.2.2), fun p94 n95 => ?_⟩
    generalize g96 : upd H86 p94 _ = H97
    obtain ⟨e98, h99⟩ := gen_new n95 g96
    have h100 : H97 p94 = some (.lst ((repL ([(top' + 1)]) ((width' * height')) : (List Int)).map V.int)) := rep_map h99
    have fr101 := S91.free n95
    have S102 := S91.new n95 e98 h100 fr101
    refine ⟨rfl, rfl, G, _, _, _, rfl, S102.sG, (hide_nil h100), cW_call hw (fun v103 hw p106 H104 n107 e105 h108 => ?_) (fun e he H2 e2 => hE e he H2 (Same.trans S102.b0 e2))⟩
    have h109 : H104 p106 = some (.lst ((v103 : (List Int)).map V.int)) := h108
    have fr110 := S102.free n107
    have S111 := S102.new n107 e105 h109 fr110
    refine ⟨fun σ H' => ∃ (p118 : Addr) (values_117 : (List Int)) (G' : Hp), σ = [some (V.int (cell')), some (V.int (width')), some (V.int (height')), some (V.int (top')), some (V.int ((cell' % 4))), some (V.ref p118), none, none, none] ∧ Same G G' ∧ Sep [] H G G' H' [p118] ∧ H' p118 = some (.lst ((values_117 : (List Int)).map V.int)) ∧ H p118 = none ∧ cW (F__law_plane_k1 (width') (height') (top') ((cell' % 4)) values_117) KK EE, ?_, ?_⟩
    · obtain ⟨K119, hK120, hw⟩ := cW_push hw
      refine ⟨_, rfl, _, _, rfl, rfl, _, rfl, ?_⟩
      refine iteD (fun c121 => ?_) (fun c121 => ?_)
      · have hw := cW_pos c121 hw
        obtain ⟨g122, hw⟩ := cW_grd hw
        refine ⟨_, rfl, _, _, _, _, rfl, rfl, (SqL.of h109), (atI_map g122), (by show 1 ≤ sizeLine; decide), fun p123 n124 => ?_⟩
        generalize g125 : upd H104 p123 _ = H126
        obtain ⟨e127, h128⟩ := gen_new n124 g125
        have h129 : H126 p123 = some (.lst (([(itD (v103) (0))] : (List Int)).map V.int)) := h128
        have fr130 := S111.free n124
        have S131 := S111.new n124 e127 h129 fr130
        obtain ⟨g132, hw⟩ := cW_grd hw
        obtain ⟨g133, hw⟩ := cW_grd hw
        refine ⟨_, rfl, _, rfl, _, _, rfl, rfl, g132, _, _, _, rfl, rfl, h129, g133.1, g133.2.1, (rep_lenM g133.2.2), fun p134 n135 => ?_⟩
        generalize g136 : upd H126 p134 _ = H137
        obtain ⟨e138, h139⟩ := gen_new n135 g136
        have h140 : H137 p134 = some (.lst ((repL ([(itD (v103) (0))]) ((width' * height')) : (List Int)).map V.int)) := rep_map h139
        have fr141 := S131.free n135
        have S142 := S131.new n135 e138 h140 fr141
        have hw := cW_ok hw
        have hw := hK120 _ hw
        exact ⟨_, (repL ([(itD (v103) (0))]) ((width' * height'))), _, rfl, (Same.refl _), (S142.sub (all_cons (.head _) all_nil)), h140, fr141, hw⟩
      · have hw := cW_neg c121 hw
        have hw := cW_ok hw
        have hw := hK120 _ hw
        exact ⟨_, (v103), _, rfl, (Same.refl _), (S111.sub (all_cons (.head _) all_nil)), h109, fr110, hw⟩
    · intro σ H143 hw
      obtain ⟨p118, values_117, G147, rfl, eG148, S144, h145, fr146, hw⟩ := hw
      unfold F__law_plane_k1 at hw
      refine ⟨fun σ H' => ∃ (p155 : Addr) (values_154 : (List Int)) (G' : Hp), σ = [some (V.int (cell')), some (V.int (width')), some (V.int (height')), some (V.int (top')), some (V.int ((cell' % 4))), some (V.ref p155), none, none, none] ∧ Same G147 G' ∧ Sep [] H G G' H' [p155] ∧ H' p155 = some (.lst ((values_154 : (List Int)).map V.int)) ∧ H p155 = none ∧ cW (F__law_plane_k2 (width') (height') (top') ((cell' % 4)) values_154) KK EE, ?_, ?_⟩
      · obtain ⟨K156, hK157, hw⟩ := cW_push hw
        refine ⟨_, rfl, _, _, rfl, rfl, _, rfl, ?_⟩
        refine iteD (fun c158 => ?_) (fun c158 => ?_)
        · have hw := cW_pos c158 hw
          obtain ⟨g159, hw⟩ := cW_grd hw
          obtain ⟨g160, hw⟩ := cW_grd hw
          obtain ⟨K164, hK165, hw⟩ := cW_push hw
          refine ⟨_, rfl, _, rfl, _, _, rfl, rfl, g159, _, rfl, g160.1, g160.2, fun D166 n167 => lc_range (lo := 0) (n := Int.toNat ((width' * height'))) (fun i H' => ∃ (G' : Hp) (acc168 : (List Int)), Same G147 G' ∧ Sep [] H G G' H' [D166, p118] ∧ H' p118 = some (.lst ((values_117 : (List Int)).map V.int)) ∧ H' D166 = some (.lst ((acc168 : (List Int)).map V.int)) ∧ cW (mapA (List.drop i (rng (0) (Int.toNat ((width' * height'))))) acc168 (fun x => noEr (F__law_plane_c3 (top') (values_117) x))) K164 EE) ?_ ?_ ?_⟩
          · generalize g170 : upd H143 D166 _ = H171
            obtain ⟨e172, h173⟩ := gen_new n167 g170
            have fr174 := S144.free n167
            have S175 := S144.new n167 e172 h173 fr174
            have h176 := (e172 _ _ h145)
            exact ⟨_, [], Same.refl _, S175, h176, h173, hw⟩
          · intro i H177 hi hw
            obtain ⟨G180, acc182, eG181, S178, h185, h179, hw⟩ := hw
            obtain ⟨z186, hw⟩ := cW_mapA (rng_get hi) hw
            generalize (0 + (i : Int)) = x187 at hw ⊢
            have hw := cW_noEr hw
            have hw : cW (F__law_plane_c3 (top') (values_117) (x187)) _ (fun _ => False) := hw
            unfold F__law_plane_c3 at hw
            refine ⟨rfl, ?_⟩
            refine tyes_go ?_
            obtain ⟨g189, hw⟩ := cW_grd hw
            refine ⟨_, rfl, _, _, _, _, rfl, rfl, (SqL.of h185), (atI_map g189), _, rfl, _, _, rfl, rfl, (.inl ⟨by decide, by decide⟩), _, _, rfl, rfl, .inl ⟨_, rfl, ?_⟩⟩
            obtain ⟨g190, hw⟩ := cW_grd hw
            refine ⟨_, rfl, _, _, rfl, rfl, _, _, rfl, rfl, g190, _, h179, (app_lenM z186), ?_⟩
            generalize g191 : upd H177 D166 _ = H192
            obtain ⟨x193, h194⟩ := gen_mut g191
            have S195 := S178.mut1 x193 (.head _) h194
            have hw := cW_ok hw
            have h196 := (x193 _ _ h185 (ne_of_none h145 n167))
            exact ⟨_, (acc182 ++ [(((itD (values_117) (0)) + (7 * x187)) % (top' + 1))]), eG181, S195, h196, (snoc_map h194), hw⟩
          intro H197 hw
          obtain ⟨G200, acc202, eG201, S198, h205, h199, hw⟩ := hw
          have hw := hK165 _ (cW_mapA0 (rng_len _ _).symm hw)
          have fr206 := S144.free n167
          have hw := cW_ok hw
          have hw := hK157 _ hw
          exact ⟨_, (acc202), _, rfl, eG201, (S198.sub (all_cons (.head _) all_nil)), h199, fr206, hw⟩
        · have hw := cW_neg c158 hw
          have hw := cW_ok hw
          have hw := hK157 _ hw
          exact ⟨_, (values_117), _, rfl, (Same.refl _), S144, h145, fr146, hw⟩
      · intro σ H207 hw
        obtain ⟨p155, values_154, G211, rfl, eG212, S208, h209, fr210, hw⟩ := hw
        unfold F__law_plane_k2 at hw
        refine ⟨fun σ H' => ∃ (p217 : Addr) (values_216 : (List Int)) (G' : Hp), σ = [some (V.int (cell')), some (V.int (width')), some (V.int (height')), some (V.int (top')), some (V.int ((cell' % 4))), some (V.ref p217), none, none, none] ∧ Same G211 G' ∧ Sep [] H G G' H' [p217] ∧ H' p217 = some (.lst ((values_216 : (List Int)).map V.int)) ∧ H p217 = none ∧ cW (F__law_plane_k4 (width') (height') values_216) KK EE, ?_, ?_⟩
        · obtain ⟨K218, hK219, hw⟩ := cW_push hw
          refine ⟨_, rfl, _, _, rfl, rfl, _, rfl, ?_⟩
          refine iteD (fun c220 => ?_) (fun c220 => ?_)
          · have hw := cW_pos c220 hw
            obtain ⟨K223, hK224, hw⟩ := cW_push hw
            refine ⟨_, rfl, _, rfl, ⟨_, (SqL.of h209)⟩, fun D225 n226 => lc_list (K := K) (a := p155) (xs := (values_154 : (List Int)).map V.int) (fun i H' => ∃ (G' : Hp) (acc227 : (List Int)), Same G211 G' ∧ Sep [] H G G' H' [D225, p155] ∧ H' p155 = some (.lst ((values_154 : (List Int)).map V.int)) ∧ H' D225 = some (.lst ((acc227 : (List Int)).map V.int)) ∧ cW (mapA (List.drop i (values_154)) acc227 (fun x => noEr (F__law_plane_c5 (top') x))) K223 EE) ?_ ?_ ?_ ?_⟩
            · generalize g229 : upd H207 D225 _ = H230
              obtain ⟨e231, h232⟩ := gen_new n226 g229
              have fr233 := S208.free n226
              have S234 := S208.new n226 e231 h232 fr233
              have h235 := (e231 _ _ h209)
              exact ⟨_, [], Same.refl _, S234, h235, h232, hw⟩
            · intro i H236 _ hw
              obtain ⟨G239, acc241, eG240, S237, h244, h238, hw⟩ := hw
              exact (SqL.of h244)
            · intro i x H245 hj hw
              obtain ⟨G248, acc250, eG249, S246, h253, h247, hw⟩ := hw
              obtain ⟨x254, hx, rfl⟩ := map_get hj
              obtain ⟨z255, hw⟩ := cW_mapA hx hw
              have hw := cW_noEr hw
              have hw : cW (F__law_plane_c5 (top') (x254)) _ (fun _ => False) := hw
              unfold F__law_plane_c5 at hw
              refine ⟨rfl, ?_⟩
              refine tyes_go ?_
              refine ⟨_, rfl, _, rfl, .inl ⟨_, rfl, ?_⟩⟩
              refine ⟨_, _, rfl, rfl, (show (0 : Int) < 2 by decide), .inl ⟨_, rfl, ?_⟩⟩
              obtain ⟨g257, hw⟩ := cW_grd hw
              refine ⟨_, _, rfl, rfl, g257, _, h247, (app_lenM z255), ?_⟩
              generalize g258 : upd H245 D225 _ = H259
              obtain ⟨x260, h261⟩ := gen_mut g258
              have S262 := S246.mut1 x260 (.head _) h261
              have hw := cW_ok hw
              have h263 := (x260 _ _ h253 (ne_of_none h209 n226))
              exact ⟨_, (acc250 ++ [(top' * (x254 % 2))]), eG249, S262, h263, (snoc_map h261), hw⟩
            intro H264 hw
            obtain ⟨G267, acc269, eG268, S265, h272, h266, hw⟩ := hw
            have hw := hK224 _ (cW_mapA0 (by rw [List.length_map]) hw)
            have fr273 := S208.free n226
            have hw := cW_ok hw
            have hw := hK219 _ hw
            exact ⟨_, (acc269), _, rfl, eG268, (S265.sub (all_cons (.head _) all_nil)), h266, fr273, hw⟩
          · have hw := cW_neg c220 hw
            have hw := cW_ok hw
            have hw := hK219 _ hw
            exact ⟨_, (values_154), _, rfl, (Same.refl _), S208, h209, fr210, hw⟩
        · intro σ H274 hw
          obtain ⟨p217, values_216, G278, rfl, eG279, S275, h276, fr277, hw⟩ := hw
          unfold F__law_plane_k4 at hw
          obtain ⟨g280, hw⟩ := cW_grd hw
          obtain ⟨K284, hK285, hw⟩ := cW_push hw
          refine ⟨_, rfl, _, rfl, g280.1, g280.2, fun D286 n287 => lc_range (lo := 0) (n := Int.toNat (height')) (fun i H' => ∃ (G' : Hp) (acc288 : (List (List Int))) (vs289 : List V), Same G278 G' ∧ Sep [] H G G' H' [D286, p217] ∧ H' p217 = some (.lst ((values_216 : (List Int)).map V.int)) ∧ H' D286 = some (.lst vs289) ∧ RpAll G' vs289 ((acc288 : (List (List Int))).map (encL PyData.int)) ∧ cW (mapA (List.drop i (rng (0) (Int.toNat (height')))) acc288 (fun x => noEr (F__law_plane_c6 (width') (values_216) x))) K284 EE) ?_ ?_ ?_⟩
          · generalize g290 : upd H274 D286 _ = H291
            obtain ⟨e292, h293⟩ := gen_new n287 g290
            have fr294 := S275.free n287
            have S295 := S275.new n287 e292 h293 fr294
            have h296 := (e292 _ _ h276)
            exact ⟨_, [], [], Same.refl _, S295, h296, h293, RpAll.nil, hw⟩
          · intro i H297 hi hw
            obtain ⟨G300, acc302, vs303, eG301, S298, h305, h299, d304, hw⟩ := hw
            obtain ⟨z306, hw⟩ := cW_mapA (rng_get hi) hw
            generalize (0 + (i : Int)) = x307 at hw ⊢
            have hw := cW_noEr hw
            have hw : cW (F__law_plane_c6 (width') (values_216) (x307)) _ (fun _ => False) := hw
            unfold F__law_plane_c6 at hw
            refine ⟨rfl, ?_⟩
            refine tyes_go ?_
            obtain ⟨g309, hw⟩ := cW_grd hw
            obtain ⟨g310, hw⟩ := cW_grd hw
            refine ⟨_, rfl, _, rfl, _, rfl, _, _, rfl, rfl, g309, _, rfl, _, rfl, _, _, rfl, rfl, _, rfl, _, _, rfl, rfl, g310, _, rfl, _, _, rfl, (SqL.of h305), fun p311 n312 => ?_⟩
            generalize g313 : upd H297 p311 _ = H314
            obtain ⟨e315, h316⟩ := gen_new n312 g313
            have h317 : H314 p311 = some (.lst ((cutL (values_216) (some ((x307 * width'))) (some (((x307 + 1) * width'))) : (List Int)).map V.int)) := cut_map h316
            have fr318 := S298.free n312
            have S319 := S298.new n312 e315 h317 fr318
            obtain ⟨G320, eG321, hg322, S323⟩ := Sep.freeze (O' := [D286, p217]) S319 (.head _) h317 fr318 ((all_cons ⟨(.tail _ (.head _)), (ne_of_none h299 n312)⟩ (all_cons ⟨(.tail _ (.tail _ (.head _))), (ne_of_none h305 n312)⟩ all_nil)))
            have h324 := (e315 _ _ h299)
            refine ⟨_, h324, (app_len (RpAll.mono eG321 d304) z306), ?_⟩
            generalize g325 : upd H314 D286 _ = H326
            obtain ⟨x327, h328⟩ := gen_mut g325
            have S329 := S323.mut1 x327 (.head _) h328
            have hw := cW_ok hw
            have h330 := (x327 _ _ (e315 _ _ h305) (ne_of_none h276 n287))
            exact ⟨_, (acc302 ++ [cutL (values_216) (some ((x307 * width'))) (some (((x307 + 1) * width')))]), _, (Same.trans eG301 eG321), S329, h330, h328, (app_map (RpAll.mono eG321 d304) (RpAll.one (rp_mk_ints hg322))), hw⟩
          intro H331 hw
          obtain ⟨G334, acc336, vs337, eG335, S332, h339, h333, d338, hw⟩ := hw
          have hw := hK285 _ (cW_mapA0 (rng_len _ _).symm hw)
          have fr340 := S275.free n287
          obtain ⟨G341, eG342, hg343, S344⟩ := Sep.freeze (O' := [p217]) S332 (.head _) h333 fr340 ((all_cons ⟨(.tail _ (.head _)), (ne_of_none h276 n287)⟩ all_nil))
          have hw := cW_ok hw
          exact hK0 _ hw _ _ _ S344.b0 S344.g0 S344.sG S344.gn (rp_mk_list hg343 (RpAll.mono eG342 d338))

abbrev N__law_due : List Str := ["plane", "x", "y", "n", "first_row", "middle", "up", "side", "above", "left", "corner", "j"]
theorem sc__law_due : FnScope N__law_due ["plane", "x", "y", "n", "first_row", "middle"] (defScope s__law_due) := ⟨rfl, rfl, rfl, by decide +kernel, rfl, by decide +kernel, by decide +kernel⟩
theorem ok__law_due (D : DefX K mg "_law_due" s__law_due ["plane", "x", "y", "n", "first_row", "middle"] pats__law_due) (T : Txt K mg AD)  : CalX P w K mg base 1 "_law_due" (sp__law_due K AD) pats__law_due := by
  refine D.ok sc__law_due (fun vs H Q E h => ?_) (fun f cdv A_ outer s H vs Q E hr h => ?_)
  · obtain ⟨G, v_plane, plane', x', y', n', first_row', middle', rfl, _⟩ := h
    rfl
  · obtain ⟨G, v_plane, plane', x', y', n', first_row', middle', rfl, sG, r_plane, hw⟩ := h
    refine ⟨_, (pss_cons (ps_set (i := 6) sc__law_due.nd rfl (Or.inl rfl) (pe_cmp (pc_gt (pv 2) (pv 4))))
      (pss_cons (ps_set (i := 7) sc__law_due.nd rfl (Or.inl rfl) (pe_cmp (pc_gt (pv 1) pe_int)))
      (pss_cons (ps_set (i := 8) sc__law_due.nd rfl (Or.inl rfl) (pe_op op_rep (pe_lst (pa_cons (pv 5) pa_nil)) (pv 3)))
      (pss_cons (ps_set (i := 9) sc__law_due.nd rfl (Or.inl rfl) (pe_op op_rep (pe_lst (pa_cons (pv 5) pa_nil)) (pv 3)))
      (pss_cons (ps_set (i := 10) sc__law_due.nd rfl (Or.inl rfl) (pv 5))
      (C8.pss_cut (ps_if (pt_val (pv 6)) (pss_one (ps_set (i := 8) sc__law_due.nd rfl (Or.inl rfl) (pe_slice (sl_listK (K := K)) (pe_ix (ix_listK (K := K)) (pv 0) (pe_op op_sub (pv 2) pe_int) (fun _ _ => rfl)) (po_some (pv 1)) (po_some (pe_op op_add (pv 1) (pv 3)))))) pss_nil)
      (C8.pss_cut (ps_if (pt_val (pv 7)) (pss_one (ps_setLc (i := 9) (y := "left") rfl sc__law_due.nd rfl rfl (sw_true rfl rfl rfl (by decide +kernel)) (own := [("j", 11)]) (g := gName 11) (pi_range1 rfl T.b_range (pa_cons (pv 3) pa_nil)) (blkOk_by (own := [("j", 11)]) (N := N__law_due) (sc := defScope s__law_due) (by decide +kernel)) (fun _ _ _ _ _ => (pg_name (i := 11) sc__law_due.nd rfl (Or.inl rfl))) (fun _ _ _ _ _ => pts_nil) (fun _ _ _ _ _ => (pe_ix (ix_listK (K := K)) (pe_ix (ix_listK (K := K)) (pv 0) (pe_op op_add (pv 2) (pv 11)) (fun _ _ => rfl)) (pe_op op_sub (pv 1) pe_int) (fun _ _ => rfl))))) pss_nil)
      (C8.pss_cut (ps_if (PW.pt (pw_and (pt_val (pv 6)) (pw_and1 (pt_not (pt_val (pv 7)))))) (pss_cons (ps_set (i := 9) sc__law_due.nd rfl (Or.inl rfl) (pe_op op_rep (pe_lst (pa_cons (pe_ix (ix_listK (K := K)) (pv 8) pe_int (fun _ _ => rfl)) pa_nil)) (pv 3)))
      (pss_one (ps_set (i := 10) sc__law_due.nd rfl (Or.inl rfl) (pe_ix (ix_listK (K := K)) (pv 8) pe_int (fun _ _ => rfl))))) pss_nil)
      (C8.pss_cut (ps_if (PW.pt (pw_and (pt_val (pv 7)) (pw_and1 (pt_not (pt_val (pv 6)))))) (pss_cons (ps_set (i := 8) sc__law_due.nd rfl (Or.inl rfl) (pe_op op_rep (pe_lst (pa_cons (pe_ix (ix_listK (K := K)) (pv 9) pe_int (fun _ _ => rfl)) pa_nil)) (pv 3)))
      (pss_one (ps_set (i := 10) sc__law_due.nd rfl (Or.inl rfl) (pe_ix (ix_listK (K := K)) (pv 9) pe_int (fun _ _ => rfl))))) pss_nil)
      (C8.pss_cut (ps_if (PW.pt (pw_and (pt_val (pv 6)) (pw_and1 (pt_val (pv 7))))) (pss_one (ps_set (i := 10) sc__law_due.nd rfl (Or.inl rfl) (pe_ix (ix_listK (K := K)) (pe_ix (ix_listK (K := K)) (pv 0) (pe_op op_sub (pv 2) pe_int) (fun _ _ => rfl)) (pe_op op_sub (pv 1) pe_int) (fun _ _ => rfl)))) pss_nil)
      (pss_one (ps_ret (pe_tup (pa_cons (pv 8) (pa_cons (pv 9) (pa_cons (pv 10) pa_nil)))))))))))))))), ?_⟩
    obtain ⟨KK, EE, hK0, hE, hw⟩ := cW_gen hw
    have S0 := Sep.startG sG
    unfold F__law_due at hw
    obtain ⟨a345, vs346, rfl, h347, d348⟩ := rp_list r_plane
    refine ⟨_, rfl, _, rfl, _, _, rfl, rfl, ?_⟩
    have hw := cW_bnd hw
    refine ⟨_, rfl, _, _, rfl, rfl, ?_⟩
    have hw := cW_bnd hw
    refine ⟨_, rfl, (by show 1 ≤ sizeLine; decide), fun p351 n352 => ?_⟩
    generalize g353 : upd H p351 _ = H354
    obtain ⟨e355, h356⟩ := gen_new n352 g353
    have h357 : H354 p351 = some (.lst (([middle'] : (List Int)).map V.int)) := h356
    have fr358 := S0.free n352
    have S359 := S0.new n352 e355 h357 fr358
    obtain ⟨g360, hw⟩ := cW_grd hw
    refine ⟨_, rfl, _, _, _, rfl, rfl, h357, g360.1, g360.2.1, (rep_lenM g360.2.2), fun p361 n362 => ?_⟩
    generalize g363 : upd H354 p361 _ = H364
    obtain ⟨e365, h366⟩ := gen_new n362 g363
    have h367 : H364 p361 = some (.lst ((repL ([middle']) (n') : (List Int)).map V.int)) := rep_map h366
    have fr368 := S359.free n362
    have S369 := S359.new n362 e365 h367 fr368
    refine ⟨_, rfl, (by show 1 ≤ sizeLine; decide), fun p370 n371 => ?_⟩
    generalize g372 : upd H364 p370 _ = H373
    obtain ⟨e374, h375⟩ := gen_new n371 g372
    have h376 : H373 p370 = some (.lst (([middle'] : (List Int)).map V.int)) := h375
    have fr377 := S369.free n371
    have S378 := S369.new n371 e374 h376 fr377
    obtain ⟨g379, hw⟩ := cW_grd hw
    refine ⟨_, rfl, _, _, _, rfl, rfl, h376, g379.1, g379.2.1, (rep_lenM g379.2.2), fun p380 n381 => ?_⟩
    generalize g382 : upd H373 p380 _ = H383
    obtain ⟨e384, h385⟩ := gen_new n381 g382
    have h386 : H383 p380 = some (.lst ((repL ([middle']) (n') : (List Int)).map V.int)) := rep_map h385
    have fr387 := S378.free n381
    have S388 := S378.new n381 e384 h386 fr387
    refine ⟨_, rfl, ⟨fun σ H' => ∃ (p399 : Addr) (above_398 : (List Int)) (G' : Hp), σ = [some (V.ref a345), some (V.int (x')), some (V.int (y')), some (V.int (n')), some (V.int (first_row')), some (V.int (middle')), some (V.bl (decide (first_row' < y'))), some (V.bl (decide (0 < x'))), some (V.ref p399), some (V.ref p380), some (V.int (middle')), none] ∧ Same G G' ∧ Sep [] H G G' H' [p399, p380] ∧ H' p399 = some (.lst ((above_398 : (List Int)).map V.int)) ∧ H' p380 = some (.lst ((repL ([middle']) (n') : (List Int)).map V.int)) ∧ H p399 = none ∧ p399 ≠ p380 ∧ cW (F__law_due_k1 (plane') (x') (y') (n') (decide (first_row' < y')) (decide (0 < x')) (repL ([middle']) (n')) (middle') above_398) KK EE, ?_, ?_⟩⟩
    · obtain ⟨K400, hK401, hw⟩ := cW_push hw
      refine ⟨_, rfl, _, rfl, ?_⟩
      refine iteB (fun c402 => ?_) (fun c402 => ?_)
      · have hw := cW_pos c402 hw
        obtain ⟨g403, hw⟩ := cW_grd hw
        obtain ⟨v404, a405, r406⟩ := RpAll.ixD (k := (y' - 1)) d348 g403
        obtain ⟨a407, rfl, h408⟩ := rp_ints r406
        refine ⟨_, rfl, _, rfl, _, _, rfl, rfl, _, _, _, _, rfl, rfl, (SqL.of (S388.sG _ _ h347)), a405, _, rfl, _, rfl, _, rfl, _, rfl, _, _, rfl, rfl, _, rfl, _, _, rfl, (SqL.of (S388.sG _ _ h408)), fun p409 n410 => ?_⟩
        generalize g411 : upd H383 p409 _ = H412
        obtain ⟨e413, h414⟩ := gen_new n410 g411
        have h415 : H412 p409 = some (.lst ((cutL ((itD (plane') ((y' - 1)))) (some (x')) (some ((x' + n'))) : (List Int)).map V.int)) := cut_map h414
        have fr416 := S388.free n410
        have S417 := S388.new n410 e413 h415 fr416
        have hw := cW_ok hw
        have hw := hK401 _ hw
        have h418 := (e413 _ _ h386)
        exact ⟨_, (cutL ((itD (plane') ((y' - 1)))) (some (x')) (some ((x' + n')))), _, rfl, (Same.refl _), (S417.sub (all_cons (.head _) (all_cons (.tail _ (.head _)) all_nil))), h415, h418, fr416, (ne_of_none h386 n410).symm, hw⟩
      · have hw := cW_negB c402 hw
        have hw := cW_ok hw
        have hw := hK401 _ hw
        have h419 := (e384 _ _ (e374 _ _ h367))
        exact ⟨_, (repL ([middle']) (n')), _, rfl, (Same.refl _), (S388.sub (all_cons (.tail _ (.tail _ (.head _))) (all_cons (.head _) all_nil))), h419, h386, fr368, (ne_of_none (e374 _ _ h367) n381), hw⟩
    · intro σ H420 hw
      obtain ⟨p399, above_398, G426, rfl, eG427, S421, h422, h423, fr424, ne425, hw⟩ := hw
      unfold F__law_due_k1 at hw
      refine ⟨fun σ H' => ∃ (p438 : Addr) (left_437 : (List Int)) (G' : Hp), σ = [some (V.ref a345), some (V.int (x')), some (V.int (y')), some (V.int (n')), some (V.int (first_row')), some (V.int (middle')), some (V.bl (decide (first_row' < y'))), some (V.bl (decide (0 < x'))), some (V.ref p399), some (V.ref p438), some (V.int (middle')), none] ∧ Same G426 G' ∧ Sep [] H G G' H' [p399, p438] ∧ H' p399 = some (.lst ((above_398 : (List Int)).map V.int)) ∧ H' p438 = some (.lst ((left_437 : (List Int)).map V.int)) ∧ H p438 = none ∧ p438 ≠ p399 ∧ cW (F__law_due_k2 (plane') (x') (y') (n') (decide (first_row' < y')) (decide (0 < x')) (above_398) (middle') left_437) KK EE, ?_, ?_⟩
      · obtain ⟨K439, hK440, hw⟩ := cW_push hw
        refine ⟨_, rfl, _, rfl, ?_⟩
        refine iteB (fun c441 => ?_) (fun c441 => ?_)
        · have hw := cW_pos c441 hw
          obtain ⟨g442, hw⟩ := cW_grd hw
          obtain ⟨K447, hK448, hw⟩ := cW_push hw
          refine ⟨_, rfl, _, rfl, g442.1, g442.2, fun D449 n450 => lc_range (lo := 0) (n := Int.toNat (n')) (fun i H' => ∃ (G' : Hp) (acc451 : (List Int)), Same G426 G' ∧ Sep [] H G G' H' [D449, p399, p380] ∧ H' p399 = some (.lst ((above_398 : (List Int)).map V.int)) ∧ H' p380 = some (.lst ((repL ([middle']) (n') : (List Int)).map V.int)) ∧ H' D449 = some (.lst ((acc451 : (List Int)).map V.int)) ∧ cW (mapA (List.drop i (rng (0) (Int.toNat (n')))) acc451 (fun x => noEr (F__law_due_c3 (plane') (x') (y') x))) K447 EE) ?_ ?_ ?_⟩
          · generalize g453 : upd H420 D449 _ = H454
            obtain ⟨e455, h456⟩ := gen_new n450 g453
            have fr457 := S421.free n450
            have S458 := S421.new n450 e455 h456 fr457
            have h459 := (e455 _ _ h422)
            have h460 := (e455 _ _ h423)
            exact ⟨_, [], Same.refl _, S458, h459, h460, h456, hw⟩
          · intro i H461 hi hw
            obtain ⟨G464, acc466, eG465, S462, h469, h470, h463, hw⟩ := hw
            obtain ⟨z471, hw⟩ := cW_mapA (rng_get hi) hw
            generalize (0 + (i : Int)) = x472 at hw ⊢
            have hw := cW_noEr hw
            have hw : cW (F__law_due_c3 (plane') (x') (y') (x472)) _ (fun _ => False) := hw
            unfold F__law_due_c3 at hw
            refine ⟨rfl, ?_⟩
            refine tyes_go ?_
            obtain ⟨g474, hw⟩ := cW_grd hw
            obtain ⟨v475, a476, r477⟩ := RpAll.ixD (k := (y' + x472)) (RpAll.mono eG465 (RpAll.mono eG427 d348)) g474
            obtain ⟨a478, rfl, h479⟩ := rp_ints r477
            obtain ⟨g480, hw⟩ := cW_grd hw
            refine ⟨_, rfl, _, rfl, _, rfl, _, _, rfl, rfl, _, _, _, _, rfl, rfl, (SqL.of (S462.sG _ _ (eG465 _ _ (eG427 _ _ h347)))), a476, _, rfl, _, _, rfl, rfl, _, _, _, _, rfl, rfl, (SqL.of (S462.sG _ _ h479)), (atI_map g480), _, h463, (app_lenM z471), ?_⟩
            generalize g481 : upd H461 D449 _ = H482
            obtain ⟨x483, h484⟩ := gen_mut g481
            have S485 := S462.mut1 x483 (.head _) h484
            have hw := cW_ok hw
            have h486 := (x483 _ _ h469 (ne_of_none h422 n450))
            have h487 := (x483 _ _ h470 (ne_of_none h423 n450))
            exact ⟨_, (acc466 ++ [(itD ((itD (plane') ((y' + x472)))) ((x' - 1)))]), eG465, S485, h486, h487, (snoc_map h484), hw⟩
          intro H488 hw
          obtain ⟨G491, acc493, eG492, S489, h496, h497, h490, hw⟩ := hw
          have hw := hK448 _ (cW_mapA0 (rng_len _ _).symm hw)
          have fr498 := S421.free n450
          have hw := cW_ok hw
          have hw := hK440 _ hw
          exact ⟨_, (acc493), _, rfl, eG492, (S489.sub (all_cons (.tail _ (.head _)) (all_cons (.head _) all_nil))), h496, h490, fr498, (ne_of_none h422 n450).symm, hw⟩
        · have hw := cW_negB c441 hw
          have hw := cW_ok hw
          have hw := hK440 _ hw
          exact ⟨_, (repL ([middle']) (n')), _, rfl, (Same.refl _), S421, h422, h423, fr387, (ne425).symm, hw⟩
      · intro σ H499 hw
        obtain ⟨p438, left_437, G505, rfl, eG506, S500, h501, h502, fr503, ne504, hw⟩ := hw
        unfold F__law_due_k2 at hw
        refine ⟨fun σ H' => ∃ (p517 : Addr) (left_516 : (List Int)) (corner_518 : Int) (G' : Hp), σ = [some (V.ref a345), some (V.int (x')), some (V.int (y')), some (V.int (n')), some (V.int (first_row')), some (V.int (middle')), some (V.bl (decide (first_row' < y'))), some (V.bl (decide (0 < x'))), some (V.ref p399), some (V.ref p517), some (V.int corner_518), none] ∧ Same G505 G' ∧ Sep [] H G G' H' [p399, p517] ∧ H' p399 = some (.lst ((above_398 : (List Int)).map V.int)) ∧ H' p517 = some (.lst ((left_516 : (List Int)).map V.int)) ∧ H p517 = none ∧ p517 ≠ p399 ∧ cW (F__law_due_k4 (plane') (x') (y') (n') (decide (first_row' < y')) (decide (0 < x')) (above_398) left_516 corner_518) KK EE, ?_, ?_⟩
        · obtain ⟨K519, hK520, hw⟩ := cW_push hw
          refine ⟨_, rfl, _, rfl, ?_⟩
          refine iteB (fun c521 => ?_) (fun c521 => ?_)
          · have hw := cW_pos c521 hw
            refine ⟨_, rfl, _, rfl, ?_⟩
            refine iteBN (fun c522 => ?_) (fun c522 => ?_)
            · have hw := cW_negB c522 hw
              obtain ⟨g523, hw⟩ := cW_grd hw
              refine ⟨_, rfl, _, _, _, _, rfl, rfl, (SqL.of h501), (atI_map g523), (by show 1 ≤ sizeLine; decide), fun p524 n525 => ?_⟩
              generalize g526 : upd H499 p524 _ = H527
              obtain ⟨e528, h529⟩ := gen_new n525 g526
              have h530 : H527 p524 = some (.lst (([(itD (above_398) (0))] : (List Int)).map V.int)) := h529
              have fr531 := S500.free n525
              have S532 := S500.new n525 e528 h530 fr531
              obtain ⟨g533, hw⟩ := cW_grd hw
              refine ⟨_, rfl, _, _, _, rfl, rfl, h530, g533.1, g533.2.1, (rep_lenM g533.2.2), fun p534 n535 => ?_⟩
              generalize g536 : upd H527 p534 _ = H537
              obtain ⟨e538, h539⟩ := gen_new n535 g536
              have h540 : H537 p534 = some (.lst ((repL ([(itD (above_398) (0))]) (n') : (List Int)).map V.int)) := rep_map h539
              have fr541 := S532.free n535
              have S542 := S532.new n535 e538 h540 fr541
              obtain ⟨g543, hw⟩ := cW_grd hw
              have h544 := (e538 _ _ (e528 _ _ h501))
              refine ⟨_, rfl, _, _, _, _, rfl, rfl, (SqL.of h544), (atI_map g543), ?_⟩
              have hw := cW_bnd hw
              have hw := cW_ok hw
              have hw := hK520 _ hw
              exact ⟨_, (repL ([(itD (above_398) (0))]) (n')), ((itD (above_398) (0))), _, rfl, (Same.refl _), (S542.sub (all_cons (.tail _ (.tail _ (.head _))) (all_cons (.head _) all_nil))), h544, h540, fr541, (ne_of_none (e528 _ _ h501) n535).symm, hw⟩
            · have hw := cW_pos c522 hw
              have hw := cW_ok hw
              have hw := hK520 _ hw
              exact ⟨_, (left_437), (middle'), _, rfl, (Same.refl _), S500, h501, h502, fr503, ne504, hw⟩
          · have hw := cW_negB c521 hw
            refine iteF ?_
            have hw := cW_ok hw
            have hw := hK520 _ hw
            exact ⟨_, (left_437), (middle'), _, rfl, (Same.refl _), S500, h501, h502, fr503, ne504, hw⟩
        · intro σ H546 hw
          obtain ⟨p517, left_516, corner_518, G552, rfl, eG553, S547, h548, h549, fr550, ne551, hw⟩ := hw
          unfold F__law_due_k4 at hw
          refine ⟨fun σ H' => ∃ (p563 : Addr) (above_562 : (List Int)) (corner_564 : Int) (G' : Hp), σ = [some (V.ref a345), some (V.int (x')), some (V.int (y')), some (V.int (n')), some (V.int (first_row')), some (V.int (middle')), some (V.bl (decide (first_row' < y'))), some (V.bl (decide (0 < x'))), some (V.ref p563), some (V.ref p517), some (V.int corner_564), none] ∧ Same G552 G' ∧ Sep [] H G G' H' [p563, p517] ∧ H' p563 = some (.lst ((above_562 : (List Int)).map V.int)) ∧ H' p517 = some (.lst ((left_516 : (List Int)).map V.int)) ∧ H p563 = none ∧ p563 ≠ p517 ∧ cW (F__law_due_k5 (plane') (x') (y') (decide (first_row' < y')) (decide (0 < x')) (left_516) above_562 corner_564) KK EE, ?_, ?_⟩
          · obtain ⟨K565, hK566, hw⟩ := cW_push hw
            refine ⟨_, rfl, _, rfl, ?_⟩
            refine iteB (fun c567 => ?_) (fun c567 => ?_)
            · have hw := cW_pos c567 hw
              refine ⟨_, rfl, _, rfl, ?_⟩
              refine iteBN (fun c568 => ?_) (fun c568 => ?_)
              · have hw := cW_negB c568 hw
                obtain ⟨g569, hw⟩ := cW_grd hw
                refine ⟨_, rfl, _, _, _, _, rfl, rfl, (SqL.of h549), (atI_map g569), (by show 1 ≤ sizeLine; decide), fun p570 n571 => ?_⟩
                generalize g572 : upd H546 p570 _ = H573
                obtain ⟨e574, h575⟩ := gen_new n571 g572
                have h576 : H573 p570 = some (.lst (([(itD (left_516) (0))] : (List Int)).map V.int)) := h575
                have fr577 := S547.free n571
                have S578 := S547.new n571 e574 h576 fr577
                obtain ⟨g579, hw⟩ := cW_grd hw
                refine ⟨_, rfl, _, _, _, rfl, rfl, h576, g579.1, g579.2.1, (rep_lenM g579.2.2), fun p580 n581 => ?_⟩
                generalize g582 : upd H573 p580 _ = H583
                obtain ⟨e584, h585⟩ := gen_new n581 g582
                have h586 : H583 p580 = some (.lst ((repL ([(itD (left_516) (0))]) (n') : (List Int)).map V.int)) := rep_map h585
                have fr587 := S578.free n581
                have S588 := S578.new n581 e584 h586 fr587
                obtain ⟨g589, hw⟩ := cW_grd hw
                have h590 := (e584 _ _ (e574 _ _ h549))
                refine ⟨_, rfl, _, _, _, _, rfl, rfl, (SqL.of h590), (atI_map g589), ?_⟩
                have hw := cW_bnd hw
                have hw := cW_ok hw
                have hw := hK566 _ hw
                exact ⟨_, (repL ([(itD (left_516) (0))]) (n')), ((itD (left_516) (0))), _, rfl, (Same.refl _), (S588.sub (all_cons (.head _) (all_cons (.tail _ (.tail _ (.tail _ (.head _)))) all_nil))), h586, h590, fr587, (ne_of_none (e574 _ _ h549) n581).symm, hw⟩
              · have hw := cW_pos c568 hw
                have hw := cW_ok hw
                have hw := hK566 _ hw
                exact ⟨_, (above_398), (corner_518), _, rfl, (Same.refl _), S547, h548, h549, fr424, (ne551).symm, hw⟩
            · have hw := cW_negB c567 hw
              refine iteF ?_
              have hw := cW_ok hw
              have hw := hK566 _ hw
              exact ⟨_, (above_398), (corner_518), _, rfl, (Same.refl _), S547, h548, h549, fr424, (ne551).symm, hw⟩
          · intro σ H592 hw
            obtain ⟨p563, above_562, corner_564, G598, rfl, eG599, S593, h594, h595, fr596, ne597, hw⟩ := hw
            unfold F__law_due_k5 at hw
            refine ⟨fun σ H' => ∃ (corner_603 : Int) (G' : Hp), σ = [some (V.ref a345), some (V.int (x')), some (V.int (y')), some (V.int (n')), some (V.int (first_row')), some (V.int (middle')), some (V.bl (decide (first_row' < y'))), some (V.bl (decide (0 < x'))), some (V.ref p563), some (V.ref p517), some (V.int corner_603), none] ∧ Same G598 G' ∧ Sep [] H G G' H' [p563, p517] ∧ H' p563 = some (.lst ((above_562 : (List Int)).map V.int)) ∧ H' p517 = some (.lst ((left_516 : (List Int)).map V.int)) ∧ cW (F__law_due_k6 (above_562) (left_516) corner_603) KK EE, ?_, ?_⟩
            · obtain ⟨K604, hK605, hw⟩ := cW_push hw
              refine ⟨_, rfl, _, rfl, ?_⟩
              refine iteB (fun c606 => ?_) (fun c606 => ?_)
              · have hw := cW_pos c606 hw
                refine ⟨_, rfl, _, rfl, ?_⟩
                refine iteB (fun c607 => ?_) (fun c607 => ?_)
                · have hw := cW_pos c607 hw
                  obtain ⟨g608, hw⟩ := cW_grd hw
                  obtain ⟨v609, a610, r611⟩ := RpAll.ixD (k := (y' - 1)) (RpAll.mono eG599 (RpAll.mono eG553 (RpAll.mono eG506 (RpAll.mono eG427 d348)))) g608
                  obtain ⟨a612, rfl, h613⟩ := rp_ints r611
                  obtain ⟨g614, hw⟩ := cW_grd hw
                  refine ⟨_, rfl, _, rfl, _, _, rfl, rfl, _, _, _, _, rfl, rfl, (SqL.of (S593.sG _ _ (eG599 _ _ (eG553 _ _ (eG506 _ _ (eG427 _ _ h347)))))), a610, _, rfl, _, _, rfl, rfl, _, _, _, _, rfl, rfl, (SqL.of (S593.sG _ _ h613)), (atI_map g614), ?_⟩
                  have hw := cW_bnd hw
                  have hw := cW_ok hw
                  have hw := hK605 _ hw
                  exact ⟨((itD ((itD (plane') ((y' - 1)))) ((x' - 1)))), _, rfl, (Same.refl _), S593, h594, h595, hw⟩
                · have hw := cW_negB c607 hw
                  have hw := cW_ok hw
                  have hw := hK605 _ hw
                  exact ⟨(corner_564), _, rfl, (Same.refl _), S593, h594, h595, hw⟩
              · have hw := cW_negB c606 hw
                refine iteF ?_
                have hw := cW_ok hw
                have hw := hK605 _ hw
                exact ⟨(corner_564), _, rfl, (Same.refl _), S593, h594, h595, hw⟩
            · intro σ H616 hw
              obtain ⟨corner_603, G620, rfl, eG621, S617, h618, h619, hw⟩ := hw
              unfold F__law_due_k6 at hw
              refine ⟨_, rfl, _, rfl, _, rfl, (by show 3 ≤ sizeLine; decide), fun p622 n623 => ?_⟩
              generalize g624 : upd H616 p622 _ = H625
              obtain ⟨e626, h627⟩ := gen_new n623 g624
              have h628 : H625 p622 = some (.tup [V.ref p563, V.ref p517, V.int (corner_603)]) := h627
              have fr629 := S617.free n623
              obtain ⟨G631, eG632, hg633, S630⟩ := S617.grow n623 e626 h628 fr629
              have h634 := (e626 _ _ h618)
              obtain ⟨G635, eG636, hg637, S638⟩ := Sep.freeze (O' := [p517]) S630 (.head _) h634 fr596 ((all_cons ⟨(.tail _ (.head _)), (ne597).symm⟩ all_nil))
              have h639 := (e626 _ _ h619)
              obtain ⟨G640, eG641, hg642, S643⟩ := Sep.freeze (O' := []) S638 (.head _) h639 fr550 (all_nil)
              have hw := cW_ok hw
              exact hK0 _ hw _ _ _ S643.b0 S643.g0 S643.sG S643.gn (rp_mk3 (eG641 _ _ (eG636 _ _ hg633)) (rp_mk_ints (eG641 _ _ hg637)) (rp_mk_ints hg642) (.int _))

abbrev N_borders : List Str := ["plane", "x", "y", "n", "first_row", "middle", "has_above", "has_left", "above", "left", "row"]
theorem sc_borders : FnScope N_borders ["plane", "x", "y", "n", "first_row", "middle"] (defScope s_borders) := ⟨rfl, rfl, rfl, by decide +kernel, rfl, by decide +kernel, by decide +kernel⟩
theorem ok_borders (D : DefX K mg "borders" s_borders ["plane", "x", "y", "n", "first_row", "middle"] pats_borders) (T : Txt K mg AD)  : CalX P w K mg base 1 "borders" (sp_borders K AD) pats_borders := by
  refine D.ok sc_borders (fun vs H Q E h => ?_) (fun f cdv A_ outer s H vs Q E hr h => ?_)
  · obtain ⟨G, v_plane, plane', x', y', n', first_row', middle', rfl, _⟩ := h
    rfl
  · obtain ⟨G, v_plane, plane', x', y', n', first_row', middle', rfl, sG, r_plane, hw⟩ := h
    refine ⟨_, (pss_cons (ps_set (i := 6) sc_borders.nd rfl (Or.inl rfl) (pe_cmp (pc_gt (pv 2) (pv 4))))
      (pss_cons (ps_set (i := 7) sc_borders.nd rfl (Or.inl rfl) (pe_cmp (pc_gt (pv 1) pe_int)))
      (pss_cons (ps_set (i := 8) sc_borders.nd rfl (Or.inl rfl) (pe_ifExp (pt_val (pv 6)) (pe_slice (sl_listK (K := K)) (pe_ix (ix_listK (K := K)) (pv 0) (pe_op op_sub (pv 2) pe_int) (fun _ _ => rfl)) (po_some (pv 1)) (po_some (pe_op op_add (pv 1) (pv 3)))) (pe_lst pa_nil)))
      (pss_cons (ps_set (i := 9) sc_borders.nd rfl (Or.inl rfl) (pe_ifExp (pt_val (pv 7)) (pe_lc (own := [("row", 10)]) (g := gName 10) (by rfl) sc_borders.nd (pi_listK (K := K) (pe_slice (sl_listK (K := K)) (pv 0) (po_some (pv 2)) (po_some (pe_op op_add (pv 2) (pv 3))))) (blkOk_by (own := [("row", 10)]) (N := N_borders) (sc := defScope s_borders) (by decide +kernel)) (fun _ _ _ _ _ => (pg_name (i := 10) sc_borders.nd rfl (Or.inl rfl))) (fun _ _ _ _ _ => pts_nil) (fun _ _ _ _ _ => (pe_ix (ix_listK (K := K)) (pv 10) (pe_op op_sub (pv 1) pe_int) (fun _ _ => rfl)))) (pe_lst pa_nil)))
      (C8.pss_cut (ps_if (pt_not (pt_val (pv 6))) (pss_one (ps_set (i := 8) sc_borders.nd rfl (Or.inl rfl) (pe_op op_rep (pe_lst (pa_cons (pe_ifExp (pt_val (pv 7)) (pe_ix (ix_listK (K := K)) (pv 9) pe_int (fun _ _ => rfl)) (pv 5)) pa_nil)) (pv 3)))) pss_nil)
      (C8.pss_cut (ps_if (pt_not (pt_val (pv 7))) (pss_one (ps_set (i := 9) sc_borders.nd rfl (Or.inl rfl) (pe_op op_rep (pe_lst (pa_cons (pe_ix (ix_listK (K := K)) (pv 8) pe_int (fun _ _ => rfl)) pa_nil)) (pv 3)))) pss_nil)
      (pss_cons (ps_if (PW.pt (pw_and (pt_val (pv 6)) (pw_and1 (pt_val (pv 7))))) (pss_one (ps_ret (pe_tup (pa_cons (pv 8) (pa_cons (pv 9) (pa_cons (pe_ix (ix_listK (K := K)) (pe_ix (ix_listK (K := K)) (pv 0) (pe_op op_sub (pv 2) pe_int) (fun _ _ => rfl)) (pe_op op_sub (pv 1) pe_int) (fun _ _ => rfl)) pa_nil)))))) pss_nil)
      (pss_one (ps_ret (pe_tup (pa_cons (pv 8) (pa_cons (pv 9) (pa_cons (pe_ix (ix_listK (K := K)) (pv 9) pe_int (fun _ _ => rfl)) pa_nil))))))))))))), ?_⟩
    obtain ⟨KK, EE, hK0, hE, hw⟩ := cW_gen hw
    have S0 := Sep.startG sG
    unfold F_borders at hw
    obtain ⟨a644, vs645, rfl, h646, d647⟩ := rp_list r_plane
    refine ⟨_, rfl, _, rfl, _, _, rfl, rfl, ?_⟩
    have hw := cW_bnd hw
    refine ⟨_, rfl, _, _, rfl, rfl, ?_⟩
    have hw := cW_bnd hw
    refine ⟨_, rfl, _, rfl, ?_⟩
    refine iteB (fun c650 => ?_) (fun c650 => ?_)
    · have hw := cW_pos c650 hw
      obtain ⟨g651, hw⟩ := cW_grd hw
      obtain ⟨v652, a653, r654⟩ := RpAll.ixD (k := (y' - 1)) d647 g651
      obtain ⟨a655, rfl, h656⟩ := rp_ints r654
      refine ⟨_, rfl, _, rfl, _, _, rfl, rfl, _, _, _, _, rfl, rfl, (SqL.of (S0.sG _ _ h646)), a653, _, rfl, _, rfl, _, rfl, _, rfl, _, _, rfl, rfl, _, rfl, _, _, rfl, (SqL.of (S0.sG _ _ h656)), fun p657 n658 => ?_⟩
      generalize g659 : upd H p657 _ = H660
      obtain ⟨e661, h662⟩ := gen_new n658 g659
      have h663 : H660 p657 = some (.lst ((cutL ((itD (plane') ((y' - 1)))) (some (x')) (some ((x' + n'))) : (List Int)).map V.int)) := cut_map h662
      have fr664 := S0.free n658
      have S665 := S0.new n658 e661 h663 fr664
      refine ⟨_, rfl, _, rfl, ?_⟩
      refine iteB (fun c666 => ?_) (fun c666 => ?_)
      · have hw := cW_pos c666 hw
        refine ⟨_, rfl, _, rfl, _, rfl, _, rfl, _, rfl, _, _, rfl, rfl, _, rfl, _, _, rfl, (SqL.of (S665.sG _ _ h646)), fun p667 n668 => ?_⟩
        generalize g669 : upd H660 p667 _ = H670
        obtain ⟨e671, h672⟩ := gen_new n668 g669
        have h673 : H670 p667 = some (.lst (cutV (vs645) (some (y')) (some ((y' + n'))))) := h672
        have fr674 := S665.free n668
        have S675 := S665.new n668 e671 h673 fr674
        have d676 : RpAll G (cutV (vs645) (some (y')) (some ((y' + n')))) ((cutL (plane') (some (y')) (some ((y' + n'))) : (List (List Int))).map (encL PyData.int)) := cut_all (some (y')) (some ((y' + n'))) d647
        obtain ⟨K679, hK680, hw⟩ := cW_push hw
        refine ⟨_, rfl, ⟨_, (SqL.of h673)⟩, fun D681 n682 => lc_list (K := K) (a := p667) (xs := cutV (vs645) (some (y')) (some ((y' + n')))) (fun i H' => ∃ (G' : Hp) (acc683 : (List Int)), Same G G' ∧ Sep [] H G G' H' [D681, p657, p667] ∧ H' p657 = some (.lst ((cutL ((itD (plane') ((y' - 1)))) (some (x')) (some ((x' + n'))) : (List Int)).map V.int)) ∧ H' p667 = some (.lst (cutV (vs645) (some (y')) (some ((y' + n'))))) ∧ H' D681 = some (.lst ((acc683 : (List Int)).map V.int)) ∧ cW (mapA (List.drop i (cutL (plane') (some (y')) (some ((y' + n'))))) acc683 (fun x => noEr (F_borders_c1 (x') x))) K679 EE) ?_ ?_ ?_ ?_⟩
        · generalize g685 : upd H670 D681 _ = H686
          obtain ⟨e687, h688⟩ := gen_new n682 g685
          have fr689 := S675.free n682
          have S690 := S675.new n682 e687 h688 fr689
          have h691 := (e687 _ _ (e671 _ _ h663))
          have h692 := (e687 _ _ h673)
          exact ⟨_, [], Same.refl _, (S690.sub (all_cons (.head _) (all_cons (.tail _ (.tail _ (.head _))) (all_cons (.tail _ (.head _)) all_nil)))), h691, h692, h688, hw⟩
        · intro i H693 _ hw
          obtain ⟨G696, acc698, eG697, S694, h701, h702, h695, hw⟩ := hw
          exact (SqL.of h702)
        · intro i x H703 hj hw
          obtain ⟨G706, acc708, eG707, S704, h711, h712, h705, hw⟩ := hw
          obtain ⟨x713, hx, r714⟩ := RpAll.get (RpAll.mono eG707 d676) hj
          obtain ⟨a715, rfl, h716⟩ := rp_ints r714
          obtain ⟨z717, hw⟩ := cW_mapA hx hw
          have hw := cW_noEr hw
          have hw : cW (F_borders_c1 (x') (x713)) _ (fun _ => False) := hw
          unfold F_borders_c1 at hw
          refine ⟨rfl, ?_⟩
          refine tyes_go ?_
          obtain ⟨g719, hw⟩ := cW_grd hw
          refine ⟨_, rfl, _, rfl, _, _, rfl, rfl, _, _, _, _, rfl, rfl, (SqL.of (S704.sG _ _ h716)), (atI_map g719), _, h705, (app_lenM z717), ?_⟩
          generalize g720 : upd H703 D681 _ = H721
          obtain ⟨x722, h723⟩ := gen_mut g720
          have S724 := S704.mut1 x722 (.head _) h723
          have hw := cW_ok hw
          have h725 := (x722 _ _ h711 (ne_of_none (e671 _ _ h663) n682))
          have h726 := (x722 _ _ h712 (ne_of_none h673 n682))
          exact ⟨_, (acc708 ++ [(itD (x713) ((x' - 1)))]), eG707, S724, h725, h726, (snoc_map h723), hw⟩
        intro H727 hw
        obtain ⟨G730, acc732, eG731, S728, h735, h736, h729, hw⟩ := hw
        have hw := hK680 _ (cW_mapA0 (by rw [(RpAll.mono eG731 d676).len, List.length_map]) hw)
        have fr737 := S675.free n682
        refine ⟨fun σ H' => ∃ (p747 : Addr) (above_746 : (List Int)) (G' : Hp), σ = [some (V.ref a644), some (V.int (x')), some (V.int (y')), some (V.int (n')), some (V.int (first_row')), some (V.int (middle')), some (V.bl (decide (first_row' < y'))), some (V.bl (decide (0 < x'))), some (V.ref p747), some (V.ref D681), none] ∧ Same G730 G' ∧ Sep [] H G G' H' [p747, D681] ∧ H' p747 = some (.lst ((above_746 : (List Int)).map V.int)) ∧ H' D681 = some (.lst ((acc732 : (List Int)).map V.int)) ∧ H p747 = none ∧ p747 ≠ D681 ∧ cW (F_borders_k2 (plane') (x') (y') (n') (decide (first_row' < y')) (decide (0 < x')) (acc732) above_746) KK EE, ?_, ?_⟩
        · obtain ⟨K748, hK749, hw⟩ := cW_push hw
          refine ⟨_, rfl, _, rfl, ?_⟩
          refine iteBN (fun c750 => ?_) (fun c750 => ?_)
          · have hw := cW_negB c750 hw
            obtain ⟨g751, hw⟩ := cW_grd hw
            refine vv_ifQ (c := decide (0 < x')) (ta := (tOp (rIxL K) (tVar 9) (tC (V.int 0)))) (tb := (tVar 5)) (t := tB (tVar 7)) (a := (itD (acc732) (0))) (b := middle') ?hx752 (fun hc => ?hy753) (fun hc => ?hz754) _ ?_
            case hx752 => exact vt_val (val_var rfl)
            case hy753 => exact (val_op (val_var rfl) val_c (fun Q q => ⟨_, _, _, _, rfl, rfl, (SqL.of h729), (atI_map (g751 hc)), q⟩))
            case hz754 => exact (val_var rfl)
            refine ⟨(by show 1 ≤ sizeLine; decide), fun p755 n756 => ?_⟩
            generalize g757 : upd H727 p755 _ = H758
            obtain ⟨e759, h760⟩ := gen_new n756 g757
            have h761 : H758 p755 = some (.lst (([(if decide (0 < x') = true then (itD (acc732) (0)) else middle')] : (List Int)).map V.int)) := h760
            have fr762 := S728.free n756
            have S763 := S728.new n756 e759 h761 fr762
            obtain ⟨g764, hw⟩ := cW_grd hw
            refine ⟨_, rfl, _, _, _, rfl, rfl, h761, g764.1, g764.2.1, (rep_lenM g764.2.2), fun p765 n766 => ?_⟩
            generalize g767 : upd H758 p765 _ = H768
            obtain ⟨e769, h770⟩ := gen_new n766 g767
            have h771 : H768 p765 = some (.lst ((repL ([(if decide (0 < x') = true then (itD (acc732) (0)) else middle')]) (n') : (List Int)).map V.int)) := rep_map h770
            have fr772 := S763.free n766
            have S773 := S763.new n766 e769 h771 fr772
            have hw := cW_ok hw
            have hw := hK749 _ hw
            have h774 := (e769 _ _ (e759 _ _ h729))
            exact ⟨_, (repL ([(if decide (0 < x') = true then (itD (acc732) (0)) else middle')]) (n')), _, rfl, (Same.refl _), (S773.sub (all_cons (.head _) (all_cons (.tail _ (.tail _ (.head _))) all_nil))), h771, h774, fr772, (ne_of_none (e759 _ _ h729) n766).symm, hw⟩
          · have hw := cW_pos c750 hw
            have hw := cW_ok hw
            have hw := hK749 _ hw
            exact ⟨_, (cutL ((itD (plane') ((y' - 1)))) (some (x')) (some ((x' + n')))), _, rfl, (Same.refl _), (S728.sub (all_cons (.tail _ (.head _)) (all_cons (.head _) all_nil))), h735, h729, fr664, (ne_of_none (e671 _ _ h663) n682), hw⟩
        · intro σ H775 hw
          obtain ⟨p747, above_746, G781, rfl, eG782, S776, h777, h778, fr779, ne780, hw⟩ := hw
          unfold F_borders_k2 at hw
          refine ⟨fun σ H' => ∃ (p791 : Addr) (left_790 : (List Int)) (G' : Hp), σ = [some (V.ref a644), some (V.int (x')), some (V.int (y')), some (V.int (n')), some (V.int (first_row')), some (V.int (middle')), some (V.bl (decide (first_row' < y'))), some (V.bl (decide (0 < x'))), some (V.ref p747), some (V.ref p791), none] ∧ Same G781 G' ∧ Sep [] H G G' H' [p747, p791] ∧ H' p747 = some (.lst ((above_746 : (List Int)).map V.int)) ∧ H' p791 = some (.lst ((left_790 : (List Int)).map V.int)) ∧ H p791 = none ∧ p791 ≠ p747 ∧ cW (F_borders_k3 (plane') (x') (y') (decide (first_row' < y')) (decide (0 < x')) (above_746) left_790) KK EE, ?_, ?_⟩
          · obtain ⟨K792, hK793, hw⟩ := cW_push hw
            refine ⟨_, rfl, _, rfl, ?_⟩
            refine iteBN (fun c794 => ?_) (fun c794 => ?_)
            · have hw := cW_negB c794 hw
              obtain ⟨g795, hw⟩ := cW_grd hw
              refine ⟨_, rfl, _, _, _, _, rfl, rfl, (SqL.of h777), (atI_map g795), (by show 1 ≤ sizeLine; decide), fun p796 n797 => ?_⟩
              generalize g798 : upd H775 p796 _ = H799
              obtain ⟨e800, h801⟩ := gen_new n797 g798
              have h802 : H799 p796 = some (.lst (([(itD (above_746) (0))] : (List Int)).map V.int)) := h801
              have fr803 := S776.free n797
              have S804 := S776.new n797 e800 h802 fr803
              obtain ⟨g805, hw⟩ := cW_grd hw
              refine ⟨_, rfl, _, _, _, rfl, rfl, h802, g805.1, g805.2.1, (rep_lenM g805.2.2), fun p806 n807 => ?_⟩
              generalize g808 : upd H799 p806 _ = H809
              obtain ⟨e810, h811⟩ := gen_new n807 g808
              have h812 : H809 p806 = some (.lst ((repL ([(itD (above_746) (0))]) (n') : (List Int)).map V.int)) := rep_map h811
              have fr813 := S804.free n807
              have S814 := S804.new n807 e810 h812 fr813
              have hw := cW_ok hw
              have hw := hK793 _ hw
              have h815 := (e810 _ _ (e800 _ _ h777))
              exact ⟨_, (repL ([(itD (above_746) (0))]) (n')), _, rfl, (Same.refl _), (S814.sub (all_cons (.tail _ (.tail _ (.head _))) (all_cons (.head _) all_nil))), h815, h812, fr813, (ne_of_none (e800 _ _ h777) n807).symm, hw⟩
            · have hw := cW_pos c794 hw
              have hw := cW_ok hw
              have hw := hK793 _ hw
              exact ⟨_, (acc732), _, rfl, (Same.refl _), S776, h777, h778, fr737, (ne780).symm, hw⟩
          · intro σ H816 hw
            obtain ⟨p791, left_790, G822, rfl, eG823, S817, h818, h819, fr820, ne821, hw⟩ := hw
            unfold F_borders_k3 at hw
            refine ⟨_, rfl, _, rfl, ?_⟩
            refine iteB (fun c824 => ?_) (fun c824 => ?_)
            · have hw := cW_pos c824 hw
              refine ⟨_, rfl, _, rfl, ?_⟩
              refine iteB (fun c825 => ?_) (fun c825 => ?_)
              · have hw := cW_pos c825 hw
                obtain ⟨g826, hw⟩ := cW_grd hw
                obtain ⟨v827, a828, r829⟩ := RpAll.ixD (k := (y' - 1)) (RpAll.mono eG823 (RpAll.mono eG782 (RpAll.mono eG731 d647))) g826
                obtain ⟨a830, rfl, h831⟩ := rp_ints r829
                obtain ⟨g832, hw⟩ := cW_grd hw
                refine ⟨_, rfl, _, rfl, _, rfl, _, rfl, _, _, rfl, rfl, _, _, _, _, rfl, rfl, (SqL.of (S817.sG _ _ (eG823 _ _ (eG782 _ _ (eG731 _ _ h646))))), a828, _, rfl, _, _, rfl, rfl, _, _, _, _, rfl, rfl, (SqL.of (S817.sG _ _ h831)), (atI_map g832), (by show 3 ≤ sizeLine; decide), fun p833 n834 => ?_⟩
                generalize g835 : upd H816 p833 _ = H836
                obtain ⟨e837, h838⟩ := gen_new n834 g835
                have h839 : H836 p833 = some (.tup [V.ref p747, V.ref p791, V.int ((itD ((itD (plane') ((y' - 1)))) ((x' - 1))))]) := h838
                have fr840 := S817.free n834
                obtain ⟨G842, eG843, hg844, S841⟩ := S817.grow n834 e837 h839 fr840
                have h845 := (e837 _ _ h818)
                have h846 := (e837 _ _ h819)
                have hw := cW_ok hw
                exact hK0 _ hw _ _ _ _ S841.b0 fr840 fr779 fr820 (ne821).symm (S841.sG _ _ hg844) h845 h846
              · have hw := cW_negB c825 hw
                obtain ⟨g847, hw⟩ := cW_grd hw
                refine ⟨_, rfl, _, rfl, _, rfl, _, _, _, _, rfl, rfl, (SqL.of h819), (atI_map g847), (by show 3 ≤ sizeLine; decide), fun p848 n849 => ?_⟩
                generalize g850 : upd H816 p848 _ = H851
                obtain ⟨e852, h853⟩ := gen_new n849 g850
                have h854 : H851 p848 = some (.tup [V.ref p747, V.ref p791, V.int ((itD (left_790) (0)))]) := h853
                have fr855 := S817.free n849
                obtain ⟨G857, eG858, hg859, S856⟩ := S817.grow n849 e852 h854 fr855
                have h860 := (e852 _ _ h818)
                have h861 := (e852 _ _ h819)
                have hw := cW_ok hw
                exact hK0 _ hw _ _ _ _ S856.b0 fr855 fr779 fr820 (ne821).symm (S856.sG _ _ hg859) h860 h861
            · have hw := cW_negB c824 hw
              refine iteF ?_
              obtain ⟨g862, hw⟩ := cW_grd hw
              refine ⟨_, rfl, _, rfl, _, rfl, _, _, _, _, rfl, rfl, (SqL.of h819), (atI_map g862), (by show 3 ≤ sizeLine; decide), fun p863 n864 => ?_⟩
              generalize g865 : upd H816 p863 _ = H866
              obtain ⟨e867, h868⟩ := gen_new n864 g865
              have h869 : H866 p863 = some (.tup [V.ref p747, V.ref p791, V.int ((itD (left_790) (0)))]) := h868
              have fr870 := S817.free n864
              obtain ⟨G872, eG873, hg874, S871⟩ := S817.grow n864 e867 h869 fr870
              have h875 := (e867 _ _ h818)
              have h876 := (e867 _ _ h819)
              have hw := cW_ok hw
              exact hK0 _ hw _ _ _ _ S871.b0 fr870 fr779 fr820 (ne821).symm (S871.sG _ _ hg874) h875 h876
      · have hw := cW_negB c666 hw
        refine ⟨(by show 0 ≤ sizeLine; decide), fun p877 n878 => ?_⟩
        generalize g879 : upd H660 p877 _ = H880
        obtain ⟨e881, h882⟩ := gen_new n878 g879
        have h883 : H880 p877 = some (.lst ((([] : (List Int)) : (List Int)).map V.int)) := h882
        have fr884 := S665.free n878
        have S885 := S665.new n878 e881 h883 fr884
        refine ⟨fun σ H' => ∃ (p895 : Addr) (above_894 : (List Int)) (G' : Hp), σ = [some (V.ref a644), some (V.int (x')), some (V.int (y')), some (V.int (n')), some (V.int (first_row')), some (V.int (middle')), some (V.bl (decide (first_row' < y'))), some (V.bl (decide (0 < x'))), some (V.ref p895), some (V.ref p877), none] ∧ Same G G' ∧ Sep [] H G G' H' [p895, p877] ∧ H' p895 = some (.lst ((above_894 : (List Int)).map V.int)) ∧ H' p877 = some (.lst ((([] : (List Int)) : (List Int)).map V.int)) ∧ H p895 = none ∧ p895 ≠ p877 ∧ cW (F_borders_k4 (plane') (x') (y') (n') (decide (first_row' < y')) (decide (0 < x')) (([] : (List Int))) above_894) KK EE, ?_, ?_⟩
        · obtain ⟨K896, hK897, hw⟩ := cW_push hw
          refine ⟨_, rfl, _, rfl, ?_⟩
          refine iteBN (fun c898 => ?_) (fun c898 => ?_)
          · have hw := cW_negB c898 hw
            obtain ⟨g899, hw⟩ := cW_grd hw
            refine vv_ifQ (c := decide (0 < x')) (ta := (tOp (rIxL K) (tVar 9) (tC (V.int 0)))) (tb := (tVar 5)) (t := tB (tVar 7)) (a := (itD (([] : (List Int))) (0))) (b := middle') ?hx900 (fun hc => ?hy901) (fun hc => ?hz902) _ ?_
            case hx900 => exact vt_val (val_var rfl)
            case hy901 => exact (val_op (val_var rfl) val_c (fun Q q => ⟨_, _, _, _, rfl, rfl, (SqL.of h883), (atI_map (g899 hc)), q⟩))
            case hz902 => exact (val_var rfl)
            refine ⟨(by show 1 ≤ sizeLine; decide), fun p903 n904 => ?_⟩
            generalize g905 : upd H880 p903 _ = H906
            obtain ⟨e907, h908⟩ := gen_new n904 g905
            have h909 : H906 p903 = some (.lst (([(if decide (0 < x') = true then (itD (([] : (List Int))) (0)) else middle')] : (List Int)).map V.int)) := h908
            have fr910 := S885.free n904
            have S911 := S885.new n904 e907 h909 fr910
            obtain ⟨g912, hw⟩ := cW_grd hw
            refine ⟨_, rfl, _, _, _, rfl, rfl, h909, g912.1, g912.2.1, (rep_lenM g912.2.2), fun p913 n914 => ?_⟩
            generalize g915 : upd H906 p913 _ = H916
            obtain ⟨e917, h918⟩ := gen_new n914 g915
            have h919 : H916 p913 = some (.lst ((repL ([(if decide (0 < x') = true then (itD (([] : (List Int))) (0)) else middle')]) (n') : (List Int)).map V.int)) := rep_map h918
            have fr920 := S911.free n914
            have S921 := S911.new n914 e917 h919 fr920
            have hw := cW_ok hw
            have hw := hK897 _ hw
            have h922 := (e917 _ _ (e907 _ _ h883))
            exact ⟨_, (repL ([(if decide (0 < x') = true then (itD (([] : (List Int))) (0)) else middle')]) (n')), _, rfl, (Same.refl _), (S921.sub (all_cons (.head _) (all_cons (.tail _ (.tail _ (.head _))) all_nil))), h919, h922, fr920, (ne_of_none (e907 _ _ h883) n914).symm, hw⟩
          · have hw := cW_pos c898 hw
            have hw := cW_ok hw
            have hw := hK897 _ hw
            have h923 := (e881 _ _ h663)
            exact ⟨_, (cutL ((itD (plane') ((y' - 1)))) (some (x')) (some ((x' + n')))), _, rfl, (Same.refl _), (S885.sub (all_cons (.tail _ (.head _)) (all_cons (.head _) all_nil))), h923, h883, fr664, (ne_of_none h663 n878), hw⟩
        · intro σ H924 hw
          obtain ⟨p895, above_894, G930, rfl, eG931, S925, h926, h927, fr928, ne929, hw⟩ := hw
          unfold F_borders_k4 at hw
          refine ⟨fun σ H' => ∃ (p940 : Addr) (left_939 : (List Int)) (G' : Hp), σ = [some (V.ref a644), some (V.int (x')), some (V.int (y')), some (V.int (n')), some (V.int (first_row')), some (V.int (middle')), some (V.bl (decide (first_row' < y'))), some (V.bl (decide (0 < x'))), some (V.ref p895), some (V.ref p940), none] ∧ Same G930 G' ∧ Sep [] H G G' H' [p895, p940] ∧ H' p895 = some (.lst ((above_894 : (List Int)).map V.int)) ∧ H' p940 = some (.lst ((left_939 : (List Int)).map V.int)) ∧ H p940 = none ∧ p940 ≠ p895 ∧ cW (F_borders_k5 (plane') (x') (y') (decide (first_row' < y')) (decide (0 < x')) (above_894) left_939) KK EE, ?_, ?_⟩
          · obtain ⟨K941, hK942, hw⟩ := cW_push hw
            refine ⟨_, rfl, _, rfl, ?_⟩
            refine iteBN (fun c943 => ?_) (fun c943 => ?_)
            · have hw := cW_negB c943 hw
              obtain ⟨g944, hw⟩ := cW_grd hw
              refine ⟨_, rfl, _, _, _, _, rfl, rfl, (SqL.of h926), (atI_map g944), (by show 1 ≤ sizeLine; decide), fun p945 n946 => ?_⟩
              generalize g947 : upd H924 p945 _ = H948
              obtain ⟨e949, h950⟩ := gen_new n946 g947
              have h951 : H948 p945 = some (.lst (([(itD (above_894) (0))] : (List Int)).map V.int)) := h950
              have fr952 := S925.free n946
              have S953 := S925.new n946 e949 h951 fr952
              obtain ⟨g954, hw⟩ := cW_grd hw
              refine ⟨_, rfl, _, _, _, rfl, rfl, h951, g954.1, g954.2.1, (rep_lenM g954.2.2), fun p955 n956 => ?_⟩
              generalize g957 : upd H948 p955 _ = H958
              obtain ⟨e959, h960⟩ := gen_new n956 g957
              have h961 : H958 p955 = some (.lst ((repL ([(itD (above_894) (0))]) (n') : (List Int)).map V.int)) := rep_map h960
              have fr962 := S953.free n956
              have S963 := S953.new n956 e959 h961 fr962
              have hw := cW_ok hw
              have hw := hK942 _ hw
              have h964 := (e959 _ _ (e949 _ _ h926))
              exact ⟨_, (repL ([(itD (above_894) (0))]) (n')), _, rfl, (Same.refl _), (S963.sub (all_cons (.tail _ (.tail _ (.head _))) (all_cons (.head _) all_nil))), h964, h961, fr962, (ne_of_none (e949 _ _ h926) n956).symm, hw⟩
            · have hw := cW_pos c943 hw
              have hw := cW_ok hw
              have hw := hK942 _ hw
              exact ⟨_, (([] : (List Int))), _, rfl, (Same.refl _), S925, h926, h927, fr884, (ne929).symm, hw⟩
          · intro σ H965 hw
            obtain ⟨p940, left_939, G971, rfl, eG972, S966, h967, h968, fr969, ne970, hw⟩ := hw
            unfold F_borders_k5 at hw
            refine ⟨_, rfl, _, rfl, ?_⟩
            refine iteB (fun c973 => ?_) (fun c973 => ?_)
            · have hw := cW_pos c973 hw
              refine ⟨_, rfl, _, rfl, ?_⟩
              refine iteB (fun c974 => ?_) (fun c974 => ?_)
              · have hw := cW_pos c974 hw
                obtain ⟨g975, hw⟩ := cW_grd hw
                obtain ⟨v976, a977, r978⟩ := RpAll.ixD (k := (y' - 1)) (RpAll.mono eG972 (RpAll.mono eG931 d647)) g975
                obtain ⟨a979, rfl, h980⟩ := rp_ints r978
                obtain ⟨g981, hw⟩ := cW_grd hw
                refine ⟨_, rfl, _, rfl, _, rfl, _, rfl, _, _, rfl, rfl, _, _, _, _, rfl, rfl, (SqL.of (S966.sG _ _ (eG972 _ _ (eG931 _ _ h646)))), a977, _, rfl, _, _, rfl, rfl, _, _, _, _, rfl, rfl, (SqL.of (S966.sG _ _ h980)), (atI_map g981), (by show 3 ≤ sizeLine; decide), fun p982 n983 => ?_⟩
                generalize g984 : upd H965 p982 _ = H985
                obtain ⟨e986, h987⟩ := gen_new n983 g984
                have h988 : H985 p982 = some (.tup [V.ref p895, V.ref p940, V.int ((itD ((itD (plane') ((y' - 1)))) ((x' - 1))))]) := h987
                have fr989 := S966.free n983
                obtain ⟨G991, eG992, hg993, S990⟩ := S966.grow n983 e986 h988 fr989
                have h994 := (e986 _ _ h967)
                have h995 := (e986 _ _ h968)
                have hw := cW_ok hw
                exact hK0 _ hw _ _ _ _ S990.b0 fr989 fr928 fr969 (ne970).symm (S990.sG _ _ hg993) h994 h995
              · have hw := cW_negB c974 hw
                obtain ⟨g996, hw⟩ := cW_grd hw
                refine ⟨_, rfl, _, rfl, _, rfl, _, _, _, _, rfl, rfl, (SqL.of h968), (atI_map g996), (by show 3 ≤ sizeLine; decide), fun p997 n998 => ?_⟩
                generalize g999 : upd H965 p997 _ = H1000
                obtain ⟨e1001, h1002⟩ := gen_new n998 g999
                have h1003 : H1000 p997 = some (.tup [V.ref p895, V.ref p940, V.int ((itD (left_939) (0)))]) := h1002
                have fr1004 := S966.free n998
                obtain ⟨G1006, eG1007, hg1008, S1005⟩ := S966.grow n998 e1001 h1003 fr1004
                have h1009 := (e1001 _ _ h967)
                have h1010 := (e1001 _ _ h968)
                have hw := cW_ok hw
                exact hK0 _ hw _ _ _ _ S1005.b0 fr1004 fr928 fr969 (ne970).symm (S1005.sG _ _ hg1008) h1009 h1010
            · have hw := cW_negB c973 hw
              refine iteF ?_
              obtain ⟨g1011, hw⟩ := cW_grd hw
              refine ⟨_, rfl, _, rfl, _, rfl, _, _, _, _, rfl, rfl, (SqL.of h968), (atI_map g1011), (by show 3 ≤ sizeLine; decide), fun p1012 n1013 => ?_⟩
              generalize g1014 : upd H965 p1012 _ = H1015
              obtain ⟨e1016, h1017⟩ := gen_new n1013 g1014
              have h1018 : H1015 p1012 = some (.tup [V.ref p895, V.ref p940, V.int ((itD (left_939) (0)))]) := h1017
              have fr1019 := S966.free n1013
              obtain ⟨G1021, eG1022, hg1023, S1020⟩ := S966.grow n1013 e1016 h1018 fr1019
              have h1024 := (e1016 _ _ h967)
              have h1025 := (e1016 _ _ h968)
              have hw := cW_ok hw
              exact hK0 _ hw _ _ _ _ S1020.b0 fr1019 fr928 fr969 (ne970).symm (S1020.sG _ _ hg1023) h1024 h1025
    · have hw := cW_negB c650 hw
      refine ⟨(by show 0 ≤ sizeLine; decide), fun p1026 n1027 => ?_⟩
      generalize g1028 : upd H p1026 _ = H1029
      obtain ⟨e1030, h1031⟩ := gen_new n1027 g1028
      have h1032 : H1029 p1026 = some (.lst ((([] : (List Int)) : (List Int)).map V.int)) := h1031
      have fr1033 := S0.free n1027
      have S1034 := S0.new n1027 e1030 h1032 fr1033
      refine ⟨_, rfl, _, rfl, ?_⟩
      refine iteB (fun c1035 => ?_) (fun c1035 => ?_)
      · have hw := cW_pos c1035 hw
        refine ⟨_, rfl, _, rfl, _, rfl, _, rfl, _, rfl, _, _, rfl, rfl, _, rfl, _, _, rfl, (SqL.of (S1034.sG _ _ h646)), fun p1036 n1037 => ?_⟩
        generalize g1038 : upd H1029 p1036 _ = H1039
        obtain ⟨e1040, h1041⟩ := gen_new n1037 g1038
        have h1042 : H1039 p1036 = some (.lst (cutV (vs645) (some (y')) (some ((y' + n'))))) := h1041
        have fr1043 := S1034.free n1037
        have S1044 := S1034.new n1037 e1040 h1042 fr1043
        have d1045 : RpAll G (cutV (vs645) (some (y')) (some ((y' + n')))) ((cutL (plane') (some (y')) (some ((y' + n'))) : (List (List Int))).map (encL PyData.int)) := cut_all (some (y')) (some ((y' + n'))) d647
        obtain ⟨K1048, hK1049, hw⟩ := cW_push hw
        refine ⟨_, rfl, ⟨_, (SqL.of h1042)⟩, fun D1050 n1051 => lc_list (K := K) (a := p1036) (xs := cutV (vs645) (some (y')) (some ((y' + n')))) (fun i H' => ∃ (G' : Hp) (acc1052 : (List Int)), Same G G' ∧ Sep [] H G G' H' [D1050, p1026, p1036] ∧ H' p1026 = some (.lst ((([] : (List Int)) : (List Int)).map V.int)) ∧ H' p1036 = some (.lst (cutV (vs645) (some (y')) (some ((y' + n'))))) ∧ H' D1050 = some (.lst ((acc1052 : (List Int)).map V.int)) ∧ cW (mapA (List.drop i (cutL (plane') (some (y')) (some ((y' + n'))))) acc1052 (fun x => noEr (F_borders_c6 (x') x))) K1048 EE) ?_ ?_ ?_ ?_⟩
        · generalize g1054 : upd H1039 D1050 _ = H1055
          obtain ⟨e1056, h1057⟩ := gen_new n1051 g1054
          have fr1058 := S1044.free n1051
          have S1059 := S1044.new n1051 e1056 h1057 fr1058
          have h1060 := (e1056 _ _ (e1040 _ _ h1032))
          have h1061 := (e1056 _ _ h1042)
          exact ⟨_, [], Same.refl _, (S1059.sub (all_cons (.head _) (all_cons (.tail _ (.tail _ (.head _))) (all_cons (.tail _ (.head _)) all_nil)))), h1060, h1061, h1057, hw⟩
        · intro i H1062 _ hw
          obtain ⟨G1065, acc1067, eG1066, S1063, h1070, h1071, h1064, hw⟩ := hw
          exact (SqL.of h1071)
        · intro i x H1072 hj hw
          obtain ⟨G1075, acc1077, eG1076, S1073, h1080, h1081, h1074, hw⟩ := hw
          obtain ⟨x1082, hx, r1083⟩ := RpAll.get (RpAll.mono eG1076 d1045) hj
          obtain ⟨a1084, rfl, h1085⟩ := rp_ints r1083
          obtain ⟨z1086, hw⟩ := cW_mapA hx hw
          have hw := cW_noEr hw
          have hw : cW (F_borders_c6 (x') (x1082)) _ (fun _ => False) := hw
          unfold F_borders_c6 at hw
          refine ⟨rfl, ?_⟩
          refine tyes_go ?_
          obtain ⟨g1088, hw⟩ := cW_grd hw
          refine ⟨_, rfl, _, rfl, _, _, rfl, rfl, _, _, _, _, rfl, rfl, (SqL.of (S1073.sG _ _ h1085)), (atI_map g1088), _, h1074, (app_lenM z1086), ?_⟩
          generalize g1089 : upd H1072 D1050 _ = H1090
          obtain ⟨x1091, h1092⟩ := gen_mut g1089
          have S1093 := S1073.mut1 x1091 (.head _) h1092
          have hw := cW_ok hw
          have h1094 := (x1091 _ _ h1080 (ne_of_none (e1040 _ _ h1032) n1051))
          have h1095 := (x1091 _ _ h1081 (ne_of_none h1042 n1051))
          exact ⟨_, (acc1077 ++ [(itD (x1082) ((x' - 1)))]), eG1076, S1093, h1094, h1095, (snoc_map h1092), hw⟩
        intro H1096 hw
        obtain ⟨G1099, acc1101, eG1100, S1097, h1104, h1105, h1098, hw⟩ := hw
        have hw := hK1049 _ (cW_mapA0 (by rw [(RpAll.mono eG1100 d1045).len, List.length_map]) hw)
        have fr1106 := S1044.free n1051
        refine ⟨fun σ H' => ∃ (p1116 : Addr) (above_1115 : (List Int)) (G' : Hp), σ = [some (V.ref a644), some (V.int (x')), some (V.int (y')), some (V.int (n')), some (V.int (first_row')), some (V.int (middle')), some (V.bl (decide (first_row' < y'))), some (V.bl (decide (0 < x'))), some (V.ref p1116), some (V.ref D1050), none] ∧ Same G1099 G' ∧ Sep [] H G G' H' [p1116, D1050] ∧ H' p1116 = some (.lst ((above_1115 : (List Int)).map V.int)) ∧ H' D1050 = some (.lst ((acc1101 : (List Int)).map V.int)) ∧ H p1116 = none ∧ p1116 ≠ D1050 ∧ cW (F_borders_k7 (plane') (x') (y') (n') (decide (first_row' < y')) (decide (0 < x')) (acc1101) above_1115) KK EE, ?_, ?_⟩
        · obtain ⟨K1117, hK1118, hw⟩ := cW_push hw
          refine ⟨_, rfl, _, rfl, ?_⟩
          refine iteBN (fun c1119 => ?_) (fun c1119 => ?_)
          · have hw := cW_negB c1119 hw
            obtain ⟨g1120, hw⟩ := cW_grd hw
            refine vv_ifQ (c := decide (0 < x')) (ta := (tOp (rIxL K) (tVar 9) (tC (V.int 0)))) (tb := (tVar 5)) (t := tB (tVar 7)) (a := (itD (acc1101) (0))) (b := middle') ?hx1121 (fun hc => ?hy1122) (fun hc => ?hz1123) _ ?_
            case hx1121 => exact vt_val (val_var rfl)
            case hy1122 => exact (val_op (val_var rfl) val_c (fun Q q => ⟨_, _, _, _, rfl, rfl, (SqL.of h1098), (atI_map (g1120 hc)), q⟩))
            case hz1123 => exact (val_var rfl)
            refine ⟨(by show 1 ≤ sizeLine; decide), fun p1124 n1125 => ?_⟩
            generalize g1126 : upd H1096 p1124 _ = H1127
            obtain ⟨e1128, h1129⟩ := gen_new n1125 g1126
            have h1130 : H1127 p1124 = some (.lst (([(if decide (0 < x') = true then (itD (acc1101) (0)) else middle')] : (List Int)).map V.int)) := h1129
            have fr1131 := S1097.free n1125
            have S1132 := S1097.new n1125 e1128 h1130 fr1131
            obtain ⟨g1133, hw⟩ := cW_grd hw
            refine ⟨_, rfl, _, _, _, rfl, rfl, h1130, g1133.1, g1133.2.1, (rep_lenM g1133.2.2), fun p1134 n1135 => ?_⟩
            generalize g1136 : upd H1127 p1134 _ = H1137
            obtain ⟨e1138, h1139⟩ := gen_new n1135 g1136
            have h1140 : H1137 p1134 = some (.lst ((repL ([(if decide (0 < x') = true then (itD (acc1101) (0)) else middle')]) (n') : (List Int)).map V.int)) := rep_map h1139
            have fr1141 := S1132.free n1135
            have S1142 := S1132.new n1135 e1138 h1140 fr1141
            have hw := cW_ok hw
            have hw := hK1118 _ hw
            have h1143 := (e1138 _ _ (e1128 _ _ h1098))
            exact ⟨_, (repL ([(if decide (0 < x') = true then (itD (acc1101) (0)) else middle')]) (n')), _, rfl, (Same.refl _), (S1142.sub (all_cons (.head _) (all_cons (.tail _ (.tail _ (.head _))) all_nil))), h1140, h1143, fr1141, (ne_of_none (e1128 _ _ h1098) n1135).symm, hw⟩
          · have hw := cW_pos c1119 hw
            have hw := cW_ok hw
            have hw := hK1118 _ hw
            exact ⟨_, (([] : (List Int))), _, rfl, (Same.refl _), (S1097.sub (all_cons (.tail _ (.head _)) (all_cons (.head _) all_nil))), h1104, h1098, fr1033, (ne_of_none (e1040 _ _ h1032) n1051), hw⟩
        · intro σ H1144 hw
          obtain ⟨p1116, above_1115, G1150, rfl, eG1151, S1145, h1146, h1147, fr1148, ne1149, hw⟩ := hw
          unfold F_borders_k7 at hw
          refine ⟨fun σ H' => ∃ (p1160 : Addr) (left_1159 : (List Int)) (G' : Hp), σ = [some (V.ref a644), some (V.int (x')), some (V.int (y')), some (V.int (n')), some (V.int (first_row')), some (V.int (middle')), some (V.bl (decide (first_row' < y'))), some (V.bl (decide (0 < x'))), some (V.ref p1116), some (V.ref p1160), none] ∧ Same G1150 G' ∧ Sep [] H G G' H' [p1116, p1160] ∧ H' p1116 = some (.lst ((above_1115 : (List Int)).map V.int)) ∧ H' p1160 = some (.lst ((left_1159 : (List Int)).map V.int)) ∧ H p1160 = none ∧ p1160 ≠ p1116 ∧ cW (F_borders_k8 (plane') (x') (y') (decide (first_row' < y')) (decide (0 < x')) (above_1115) left_1159) KK EE, ?_, ?_⟩
          · obtain ⟨K1161, hK1162, hw⟩ := cW_push hw
            refine ⟨_, rfl, _, rfl, ?_⟩
            refine iteBN (fun c1163 => ?_) (fun c1163 => ?_)
            · have hw := cW_negB c1163 hw
              obtain ⟨g1164, hw⟩ := cW_grd hw
              refine ⟨_, rfl, _, _, _, _, rfl, rfl, (SqL.of h1146), (atI_map g1164), (by show 1 ≤ sizeLine; decide), fun p1165 n1166 => ?_⟩
              generalize g1167 : upd H1144 p1165 _ = H1168
              obtain ⟨e1169, h1170⟩ := gen_new n1166 g1167
              have h1171 : H1168 p1165 = some (.lst (([(itD (above_1115) (0))] : (List Int)).map V.int)) := h1170
              have fr1172 := S1145.free n1166
              have S1173 := S1145.new n1166 e1169 h1171 fr1172
              obtain ⟨g1174, hw⟩ := cW_grd hw
              refine ⟨_, rfl, _, _, _, rfl, rfl, h1171, g1174.1, g1174.2.1, (rep_lenM g1174.2.2), fun p1175 n1176 => ?_⟩
              generalize g1177 : upd H1168 p1175 _ = H1178
              obtain ⟨e1179, h1180⟩ := gen_new n1176 g1177
              have h1181 : H1178 p1175 = some (.lst ((repL ([(itD (above_1115) (0))]) (n') : (List Int)).map V.int)) := rep_map h1180
              have fr1182 := S1173.free n1176
              have S1183 := S1173.new n1176 e1179 h1181 fr1182
              have hw := cW_ok hw
              have hw := hK1162 _ hw
              have h1184 := (e1179 _ _ (e1169 _ _ h1146))
              exact ⟨_, (repL ([(itD (above_1115) (0))]) (n')), _, rfl, (Same.refl _), (S1183.sub (all_cons (.tail _ (.tail _ (.head _))) (all_cons (.head _) all_nil))), h1184, h1181, fr1182, (ne_of_none (e1169 _ _ h1146) n1176).symm, hw⟩
            · have hw := cW_pos c1163 hw
              have hw := cW_ok hw
              have hw := hK1162 _ hw
              exact ⟨_, (acc1101), _, rfl, (Same.refl _), S1145, h1146, h1147, fr1106, (ne1149).symm, hw⟩
          · intro σ H1185 hw
            obtain ⟨p1160, left_1159, G1191, rfl, eG1192, S1186, h1187, h1188, fr1189, ne1190, hw⟩ := hw
            unfold F_borders_k8 at hw
            refine ⟨_, rfl, _, rfl, ?_⟩
            refine iteB (fun c1193 => ?_) (fun c1193 => ?_)
            · have hw := cW_pos c1193 hw
              refine ⟨_, rfl, _, rfl, ?_⟩
              refine iteB (fun c1194 => ?_) (fun c1194 => ?_)
              · have hw := cW_pos c1194 hw
                obtain ⟨g1195, hw⟩ := cW_grd hw
                obtain ⟨v1196, a1197, r1198⟩ := RpAll.ixD (k := (y' - 1)) (RpAll.mono eG1192 (RpAll.mono eG1151 (RpAll.mono eG1100 d647))) g1195
                obtain ⟨a1199, rfl, h1200⟩ := rp_ints r1198
                obtain ⟨g1201, hw⟩ := cW_grd hw
                refine ⟨_, rfl, _, rfl, _, rfl, _, rfl, _, _, rfl, rfl, _, _, _, _, rfl, rfl, (SqL.of (S1186.sG _ _ (eG1192 _ _ (eG1151 _ _ (eG1100 _ _ h646))))), a1197, _, rfl, _, _, rfl, rfl, _, _, _, _, rfl, rfl, (SqL.of (S1186.sG _ _ h1200)), (atI_map g1201), (by show 3 ≤ sizeLine; decide), fun p1202 n1203 => ?_⟩
                generalize g1204 : upd H1185 p1202 _ = H1205
                obtain ⟨e1206, h1207⟩ := gen_new n1203 g1204
                have h1208 : H1205 p1202 = some (.tup [V.ref p1116, V.ref p1160, V.int ((itD ((itD (plane') ((y' - 1)))) ((x' - 1))))]) := h1207
                have fr1209 := S1186.free n1203
                obtain ⟨G1211, eG1212, hg1213, S1210⟩ := S1186.grow n1203 e1206 h1208 fr1209
                have h1214 := (e1206 _ _ h1187)
                have h1215 := (e1206 _ _ h1188)
                have hw := cW_ok hw
                exact hK0 _ hw _ _ _ _ S1210.b0 fr1209 fr1148 fr1189 (ne1190).symm (S1210.sG _ _ hg1213) h1214 h1215
              · have hw := cW_negB c1194 hw
                obtain ⟨g1216, hw⟩ := cW_grd hw
                refine ⟨_, rfl, _, rfl, _, rfl, _, _, _, _, rfl, rfl, (SqL.of h1188), (atI_map g1216), (by show 3 ≤ sizeLine; decide), fun p1217 n1218 => ?_⟩
                generalize g1219 : upd H1185 p1217 _ = H1220
                obtain ⟨e1221, h1222⟩ := gen_new n1218 g1219
                have h1223 : H1220 p1217 = some (.tup [V.ref p1116, V.ref p1160, V.int ((itD (left_1159) (0)))]) := h1222
                have fr1224 := S1186.free n1218
                obtain ⟨G1226, eG1227, hg1228, S1225⟩ := S1186.grow n1218 e1221 h1223 fr1224
                have h1229 := (e1221 _ _ h1187)
                have h1230 := (e1221 _ _ h1188)
                have hw := cW_ok hw
                exact hK0 _ hw _ _ _ _ S1225.b0 fr1224 fr1148 fr1189 (ne1190).symm (S1225.sG _ _ hg1228) h1229 h1230
            · have hw := cW_negB c1193 hw
              refine iteF ?_
              obtain ⟨g1231, hw⟩ := cW_grd hw
              refine ⟨_, rfl, _, rfl, _, rfl, _, _, _, _, rfl, rfl, (SqL.of h1188), (atI_map g1231), (by show 3 ≤ sizeLine; decide), fun p1232 n1233 => ?_⟩
              generalize g1234 : upd H1185 p1232 _ = H1235
              obtain ⟨e1236, h1237⟩ := gen_new n1233 g1234
              have h1238 : H1235 p1232 = some (.tup [V.ref p1116, V.ref p1160, V.int ((itD (left_1159) (0)))]) := h1237
              have fr1239 := S1186.free n1233
              obtain ⟨G1241, eG1242, hg1243, S1240⟩ := S1186.grow n1233 e1236 h1238 fr1239
              have h1244 := (e1236 _ _ h1187)
              have h1245 := (e1236 _ _ h1188)
              have hw := cW_ok hw
              exact hK0 _ hw _ _ _ _ S1240.b0 fr1239 fr1148 fr1189 (ne1190).symm (S1240.sG _ _ hg1243) h1244 h1245
      · have hw := cW_negB c1035 hw
        refine ⟨(by show 0 ≤ sizeLine; decide), fun p1246 n1247 => ?_⟩
        generalize g1248 : upd H1029 p1246 _ = H1249
        obtain ⟨e1250, h1251⟩ := gen_new n1247 g1248
        have h1252 : H1249 p1246 = some (.lst ((([] : (List Int)) : (List Int)).map V.int)) := h1251
        have fr1253 := S1034.free n1247
        have S1254 := S1034.new n1247 e1250 h1252 fr1253
        refine ⟨fun σ H' => ∃ (p1264 : Addr) (above_1263 : (List Int)) (G' : Hp), σ = [some (V.ref a644), some (V.int (x')), some (V.int (y')), some (V.int (n')), some (V.int (first_row')), some (V.int (middle')), some (V.bl (decide (first_row' < y'))), some (V.bl (decide (0 < x'))), some (V.ref p1264), some (V.ref p1246), none] ∧ Same G G' ∧ Sep [] H G G' H' [p1264, p1246] ∧ H' p1264 = some (.lst ((above_1263 : (List Int)).map V.int)) ∧ H' p1246 = some (.lst ((([] : (List Int)) : (List Int)).map V.int)) ∧ H p1264 = none ∧ p1264 ≠ p1246 ∧ cW (F_borders_k9 (plane') (x') (y') (n') (decide (first_row' < y')) (decide (0 < x')) (([] : (List Int))) above_1263) KK EE, ?_, ?_⟩
        · obtain ⟨K1265, hK1266, hw⟩ := cW_push hw
          refine ⟨_, rfl, _, rfl, ?_⟩
          refine iteBN (fun c1267 => ?_) (fun c1267 => ?_)
          · have hw := cW_negB c1267 hw
            obtain ⟨g1268, hw⟩ := cW_grd hw
            refine vv_ifQ (c := decide (0 < x')) (ta := (tOp (rIxL K) (tVar 9) (tC (V.int 0)))) (tb := (tVar 5)) (t := tB (tVar 7)) (a := (itD (([] : (List Int))) (0))) (b := middle') ?hx1269 (fun hc => ?hy1270) (fun hc => ?hz1271) _ ?_
            case hx1269 => exact vt_val (val_var rfl)
            case hy1270 => exact (val_op (val_var rfl) val_c (fun Q q => ⟨_, _, _, _, rfl, rfl, (SqL.of h1252), (atI_map (g1268 hc)), q⟩))
            case hz1271 => exact (val_var rfl)
            refine ⟨(by show 1 ≤ sizeLine; decide), fun p1272 n1273 => ?_⟩
            generalize g1274 : upd H1249 p1272 _ = H1275
            obtain ⟨e1276, h1277⟩ := gen_new n1273 g1274
            have h1278 : H1275 p1272 = some (.lst (([(if decide (0 < x') = true then (itD (([] : (List Int))) (0)) else middle')] : (List Int)).map V.int)) := h1277
            have fr1279 := S1254.free n1273
            have S1280 := S1254.new n1273 e1276 h1278 fr1279
            obtain ⟨g1281, hw⟩ := cW_grd hw
            refine ⟨_, rfl, _, _, _, rfl, rfl, h1278, g1281.1, g1281.2.1, (rep_lenM g1281.2.2), fun p1282 n1283 => ?_⟩
            generalize g1284 : upd H1275 p1282 _ = H1285
            obtain ⟨e1286, h1287⟩ := gen_new n1283 g1284
            have h1288 : H1285 p1282 = some (.lst ((repL ([(if decide (0 < x') = true then (itD (([] : (List Int))) (0)) else middle')]) (n') : (List Int)).map V.int)) := rep_map h1287
            have fr1289 := S1280.free n1283
            have S1290 := S1280.new n1283 e1286 h1288 fr1289
            have hw := cW_ok hw
            have hw := hK1266 _ hw
            have h1291 := (e1286 _ _ (e1276 _ _ h1252))
            exact ⟨_, (repL ([(if decide (0 < x') = true then (itD (([] : (List Int))) (0)) else middle')]) (n')), _, rfl, (Same.refl _), (S1290.sub (all_cons (.head _) (all_cons (.tail _ (.tail _ (.head _))) all_nil))), h1288, h1291, fr1289, (ne_of_none (e1276 _ _ h1252) n1283).symm, hw⟩
          · have hw := cW_pos c1267 hw
            have hw := cW_ok hw
            have hw := hK1266 _ hw
            have h1292 := (e1250 _ _ h1032)
            exact ⟨_, (([] : (List Int))), _, rfl, (Same.refl _), (S1254.sub (all_cons (.tail _ (.head _)) (all_cons (.head _) all_nil))), h1292, h1252, fr1033, (ne_of_none h1032 n1247), hw⟩
        · intro σ H1293 hw
          obtain ⟨p1264, above_1263, G1299, rfl, eG1300, S1294, h1295, h1296, fr1297, ne1298, hw⟩ := hw
          unfold F_borders_k9 at hw
          refine ⟨fun σ H' => ∃ (p1309 : Addr) (left_1308 : (List Int)) (G' : Hp), σ = [some (V.ref a644), some (V.int (x')), some (V.int (y')), some (V.int (n')), some (V.int (first_row')), some (V.int (middle')), some (V.bl (decide (first_row' < y'))), some (V.bl (decide (0 < x'))), some (V.ref p1264), some (V.ref p1309), none] ∧ Same G1299 G' ∧ Sep [] H G G' H' [p1264, p1309] ∧ H' p1264 = some (.lst ((above_1263 : (List Int)).map V.int)) ∧ H' p1309 = some (.lst ((left_1308 : (List Int)).map V.int)) ∧ H p1309 = none ∧ p1309 ≠ p1264 ∧ cW (F_borders_k10 (plane') (x') (y') (decide (first_row' < y')) (decide (0 < x')) (above_1263) left_1308) KK EE, ?_, ?_⟩
          · obtain ⟨K1310, hK1311, hw⟩ := cW_push hw
            refine ⟨_, rfl, _, rfl, ?_⟩
            refine iteBN (fun c1312 => ?_) (fun c1312 => ?_)
            · have hw := cW_negB c1312 hw
              obtain ⟨g1313, hw⟩ := cW_grd hw
              refine ⟨_, rfl, _, _, _, _, rfl, rfl, (SqL.of h1295), (atI_map g1313), (by show 1 ≤ sizeLine; decide), fun p1314 n1315 => ?_⟩
              generalize g1316 : upd H1293 p1314 _ = H1317
              obtain ⟨e1318, h1319⟩ := gen_new n1315 g1316
              have h1320 : H1317 p1314 = some (.lst (([(itD (above_1263) (0))] : (List Int)).map V.int)) := h1319
              have fr1321 := S1294.free n1315
              have S1322 := S1294.new n1315 e1318 h1320 fr1321
              obtain ⟨g1323, hw⟩ := cW_grd hw
              refine ⟨_, rfl, _, _, _, rfl, rfl, h1320, g1323.1, g1323.2.1, (rep_lenM g1323.2.2), fun p1324 n1325 => ?_⟩
              generalize g1326 : upd H1317 p1324 _ = H1327
              obtain ⟨e1328, h1329⟩ := gen_new n1325 g1326
              have h1330 : H1327 p1324 = some (.lst ((repL ([(itD (above_1263) (0))]) (n') : (List Int)).map V.int)) := rep_map h1329
              have fr1331 := S1322.free n1325
              have S1332 := S1322.new n1325 e1328 h1330 fr1331
              have hw := cW_ok hw
              have hw := hK1311 _ hw
              have h1333 := (e1328 _ _ (e1318 _ _ h1295))
              exact ⟨_, (repL ([(itD (above_1263) (0))]) (n')), _, rfl, (Same.refl _), (S1332.sub (all_cons (.tail _ (.tail _ (.head _))) (all_cons (.head _) all_nil))), h1333, h1330, fr1331, (ne_of_none (e1318 _ _ h1295) n1325).symm, hw⟩
            · have hw := cW_pos c1312 hw
              have hw := cW_ok hw
              have hw := hK1311 _ hw
              exact ⟨_, (([] : (List Int))), _, rfl, (Same.refl _), S1294, h1295, h1296, fr1253, (ne1298).symm, hw⟩
          · intro σ H1334 hw
            obtain ⟨p1309, left_1308, G1340, rfl, eG1341, S1335, h1336, h1337, fr1338, ne1339, hw⟩ := hw
            unfold F_borders_k10 at hw
            refine ⟨_, rfl, _, rfl, ?_⟩
            refine iteB (fun c1342 => ?_) (fun c1342 => ?_)
            · have hw := cW_pos c1342 hw
              refine ⟨_, rfl, _, rfl, ?_⟩
              refine iteB (fun c1343 => ?_) (fun c1343 => ?_)
              · have hw := cW_pos c1343 hw
                obtain ⟨g1344, hw⟩ := cW_grd hw
                obtain ⟨v1345, a1346, r1347⟩ := RpAll.ixD (k := (y' - 1)) (RpAll.mono eG1341 (RpAll.mono eG1300 d647)) g1344
                obtain ⟨a1348, rfl, h1349⟩ := rp_ints r1347
                obtain ⟨g1350, hw⟩ := cW_grd hw
                refine ⟨_, rfl, _, rfl, _, rfl, _, rfl, _, _, rfl, rfl, _, _, _, _, rfl, rfl, (SqL.of (S1335.sG _ _ (eG1341 _ _ (eG1300 _ _ h646)))), a1346, _, rfl, _, _, rfl, rfl, _, _, _, _, rfl, rfl, (SqL.of (S1335.sG _ _ h1349)), (atI_map g1350), (by show 3 ≤ sizeLine; decide), fun p1351 n1352 => ?_⟩
                generalize g1353 : upd H1334 p1351 _ = H1354
                obtain ⟨e1355, h1356⟩ := gen_new n1352 g1353
                have h1357 : H1354 p1351 = some (.tup [V.ref p1264, V.ref p1309, V.int ((itD ((itD (plane') ((y' - 1)))) ((x' - 1))))]) := h1356
                have fr1358 := S1335.free n1352
                obtain ⟨G1360, eG1361, hg1362, S1359⟩ := S1335.grow n1352 e1355 h1357 fr1358
                have h1363 := (e1355 _ _ h1336)
                have h1364 := (e1355 _ _ h1337)
                have hw := cW_ok hw
                exact hK0 _ hw _ _ _ _ S1359.b0 fr1358 fr1297 fr1338 (ne1339).symm (S1359.sG _ _ hg1362) h1363 h1364
              · have hw := cW_negB c1343 hw
                obtain ⟨g1365, hw⟩ := cW_grd hw
                refine ⟨_, rfl, _, rfl, _, rfl, _, _, _, _, rfl, rfl, (SqL.of h1337), (atI_map g1365), (by show 3 ≤ sizeLine; decide), fun p1366 n1367 => ?_⟩
                generalize g1368 : upd H1334 p1366 _ = H1369
                obtain ⟨e1370, h1371⟩ := gen_new n1367 g1368
                have h1372 : H1369 p1366 = some (.tup [V.ref p1264, V.ref p1309, V.int ((itD (left_1308) (0)))]) := h1371
                have fr1373 := S1335.free n1367
                obtain ⟨G1375, eG1376, hg1377, S1374⟩ := S1335.grow n1367 e1370 h1372 fr1373
                have h1378 := (e1370 _ _ h1336)
                have h1379 := (e1370 _ _ h1337)
                have hw := cW_ok hw
                exact hK0 _ hw _ _ _ _ S1374.b0 fr1373 fr1297 fr1338 (ne1339).symm (S1374.sG _ _ hg1377) h1378 h1379
            · have hw := cW_negB c1342 hw
              refine iteF ?_
              obtain ⟨g1380, hw⟩ := cW_grd hw
              refine ⟨_, rfl, _, rfl, _, rfl, _, _, _, _, rfl, rfl, (SqL.of h1337), (atI_map g1380), (by show 3 ≤ sizeLine; decide), fun p1381 n1382 => ?_⟩
              generalize g1383 : upd H1334 p1381 _ = H1384
              obtain ⟨e1385, h1386⟩ := gen_new n1382 g1383
              have h1387 : H1384 p1381 = some (.tup [V.ref p1264, V.ref p1309, V.int ((itD (left_1308) (0)))]) := h1386
              have fr1388 := S1335.free n1382
              obtain ⟨G1390, eG1391, hg1392, S1389⟩ := S1335.grow n1382 e1385 h1387 fr1388
              have h1393 := (e1385 _ _ h1336)
              have h1394 := (e1385 _ _ h1337)
              have hw := cW_ok hw
              exact hK0 _ hw _ _ _ _ S1389.b0 fr1388 fr1297 fr1338 (ne1339).symm (S1389.sG _ _ hg1392) h1393 h1394

abbrev N__law_cell : List Str := ["script", "k"]
theorem sc__law_cell : FnScope N__law_cell ["script", "k"] (defScope s__law_cell) := ⟨rfl, rfl, rfl, by decide +kernel, rfl, by decide +kernel, by decide +kernel⟩
theorem ok__law_cell (D : DefX K mg "_law_cell" s__law_cell ["script", "k"] pats__law_cell) (T : Txt K mg AD)  : CalX P w K mg base 1 "_law_cell" (sp__law_cell K AD) pats__law_cell := by
  refine D.ok sc__law_cell (fun vs H Q E h => ?_) (fun f cdv A_ outer s H vs Q E hr h => ?_)
  · obtain ⟨G, a_script, script', k', rfl, _⟩ := h
    rfl
  · obtain ⟨G, a_script, script', k', rfl, sG, q_script, hw⟩ := h
    refine ⟨_, (pss_cons (ps_if (pt_cmp (pc_lt (pv 1) (pe_callB (call_lenLiK (K := K)) (by rfl) T.b_len (by decide +kernel) (pa_cons (pv 0) pa_nil)))) (pss_one (ps_ret (pe_callTy call_int1 (by rfl) T.b_int (by decide +kernel) (pa_cons (pe_ix (ix_listK (K := K)) (pv 0) (pv 1) (fun _ _ => rfl)) pa_nil)))) pss_nil)
      (pss_one (ps_ret pe_int))), ?_⟩
    obtain ⟨KK, EE, hK0, hE, hw⟩ := cW_gen hw
    have S0 := Sep.startG sG
    unfold F__law_cell at hw
    refine ⟨_, rfl, _, rfl, _, _, rfl, (S0.b0.seq q_script), _, _, rfl, rfl, _, rfl, ?_⟩
    refine iteD (fun c1395 => ?_) (fun c1395 => ?_)
    · have hw := cW_pos c1395 hw
      obtain ⟨g1396, hw⟩ := cW_grd hw
      refine ⟨_, rfl, _, rfl, _, _, _, _, rfl, rfl, (S0.b0.seq q_script), (atI_map g1396), .inl ⟨_, rfl, ?_⟩⟩
      have hw := cW_ok hw
      exact hK0 _ hw
    · have hw := cW_neg c1395 hw
      have hw := cW_ok hw
      exact hK0 _ hw

abbrev N_law : List Str := ["script", "draws", "width", "height", "n", "x", "y", "first_row", "top", "plane", "kept", "due", "actual", "again", "row"]
theorem sc_law : FnScope N_law ["script"] (defScope s_law) := ⟨rfl, rfl, rfl, by decide +kernel, rfl, by decide +kernel, by decide +kernel⟩
theorem ok_law {f : Addr} {fd : FuncData} (F : Fun K "law" "law" s_law f fd) (T : Txt K mg AD) (c__law_draws : CalX P w K mg base 1 "_law_draws" (sp__law_draws K AD) pats__law_draws) (c__law_cell : CalX P w K mg base 1 "_law_cell" (sp__law_cell K AD) pats__law_cell) (c__law_plane : CalX P w K mg base 2 "_law_plane" (sp__law_plane K AD) pats__law_plane) (c__law_due : CalX P w K mg base 1 "_law_due" (sp__law_due K AD) pats__law_due) (c_borders : CalX P w K mg base 1 "borders" (sp_borders K AD) pats_borders) : FnOk P w K mg base CX0 3 f fd ["script"] (sp_law K AD) := by
  refine F.ok sc_law (fun vs H Q E h => ?_) (fun cdv A_ outer s H vs Q E hr h => ?_)
  · obtain ⟨a_script, script, rfl, _⟩ := h
    rfl
  · obtain ⟨a_script, script', rfl, q_script, hw, k⟩ := h
    refine ⟨_, (pss_cons (ps_set (i := 1) sc_law.nd rfl (Or.inl rfl) (vx_callX c__law_draws pat__law_draws_0 (.head _) hr (by decide) takes0 rfl (pa_cons (vx_callX c__law_cell pat__law_cell_0 (.head _) hr (by decide) takes0 rfl (pa_cons (pv 0) (pa_cons pe_int pa_nil)) pk_nil) (pa_cons (pe_lst (pa_cons pe_int (pa_cons pe_int (pa_cons pe_int (pa_cons pe_int (pa_cons pe_int (pa_cons pe_int (pa_cons pe_int (pa_cons pe_int pa_nil))))))))) pa_nil)) pk_nil))
      (pss_cons (ps_set (i := 2) sc_law.nd rfl (Or.inl rfl) (pe_op op_add pe_int (pe_op op_mul pe_int (pe_ix (ix_listK (K := K)) (pv 1) pe_int (fun _ _ => rfl)))))
      (pss_cons (ps_set (i := 3) sc_law.nd rfl (Or.inl rfl) (pe_op op_add pe_int (pe_op op_mul pe_int (pe_ix (ix_listK (K := K)) (pv 1) pe_int (fun _ _ => rfl)))))
      (pss_cons (ps_set (i := 4) sc_law.nd rfl (Or.inl rfl) pe_int)
      (C8.pss_cut (ps_if (PW.pt (pw_and (pt_cmp (pc_eqI (pe_ix (ix_listK (K := K)) (pv 1) pe_int (fun _ _ => rfl)) pe_int)) (pw_and (pt_cmp (pc_ge (pv 2) pe_int)) (pw_and1 (pt_cmp (pc_ge (pv 3) pe_int)))))) (pss_one (ps_set (i := 4) sc_law.nd rfl (Or.inl rfl) pe_int)) pss_nil)
      (pss_cons (ps_set (i := 5) sc_law.nd rfl (Or.inl rfl) (pe_op op_mod (pe_callTy call_int1 (by rfl) T.b_int (by decide +kernel) (pa_cons (pe_ix (ix_listK (K := K)) (pv 1) pe_int (fun _ _ => rfl)) pa_nil)) (pe_op op_add (pe_op op_sub (pv 2) (pv 4)) pe_int)))
      (pss_cons (ps_set (i := 6) sc_law.nd rfl (Or.inl rfl) (pe_op op_mod (pe_callTy call_int1 (by rfl) T.b_int (by decide +kernel) (pa_cons (pe_ix (ix_listK (K := K)) (pv 1) pe_int (fun _ _ => rfl)) pa_nil)) (pe_op op_add (pe_op op_sub (pv 3) (pv 4)) pe_int)))
      (pss_cons (ps_set (i := 7) sc_law.nd rfl (Or.inl rfl) (pe_ix (ix_listK (K := K)) (pe_lst (pa_cons (pv 6) (pa_cons pe_int (pa_cons (pe_op op_mod (pe_callTy call_int1 (by rfl) T.b_int (by decide +kernel) (pa_cons (pe_ix (ix_listK (K := K)) (pv 1) pe_int (fun _ _ => rfl)) pa_nil)) (pe_op op_add (pv 6) pe_int)) (pa_cons (pv 6) pa_nil))))) (pe_ix (ix_listK (K := K)) (pv 1) pe_int (fun _ _ => rfl)) (fun _ _ => rfl)))
      (pss_cons (ps_set (i := 8) sc_law.nd rfl (Or.inl rfl) (pe_op op_sub (pe_op op_shlW pe_int (pe_op op_add pe_int (pe_ix (ix_listK (K := K)) (pv 1) pe_int (fun _ _ => rfl)))) pe_int))
      (pss_cons (ps_set (i := 9) sc_law.nd rfl (Or.inl rfl) (vx_callX c__law_plane pat__law_plane_0 (.head _) hr (by decide) takes0 rfl (pa_cons (vx_callX c__law_cell pat__law_cell_0 (.head _) hr (by decide) takes0 rfl (pa_cons (pv 0) (pa_cons pe_int pa_nil)) pk_nil) (pa_cons (pv 2) (pa_cons (pv 3) (pa_cons (pv 8) pa_nil)))) pk_nil))
      (pss_cons (ps_setLc (i := 10) (y := "kept") rfl sc_law.nd rfl rfl (sw_true rfl rfl rfl (by decide +kernel)) (own := [("row", 14)]) (g := gName 14) (pi_listK (K := K) (pv 9)) (blkOk_by (own := [("row", 14)]) (N := N_law) (sc := defScope s_law) (by decide +kernel)) (fun _ _ _ _ _ => (pg_name (i := 14) sc_law.nd rfl (Or.inl rfl))) (fun _ _ _ _ _ => pts_nil) (fun _ _ _ _ _ => (pe_callTy (call_listLK (K := K)) (by rfl) T.b_list (by decide +kernel) (pa_cons (pv 14) pa_nil))))
      (pss_cons (ps_set (i := 11) sc_law.nd rfl (Or.inl rfl) (vx_callX c__law_due pat__law_due_0 (.head _) hr (by decide) takes0 rfl (pa_cons (pv 10) (pa_cons (pv 5) (pa_cons (pv 6) (pa_cons (pv 4) (pa_cons (pv 7) (pa_cons (pe_op op_fdivW (pe_op op_add (pv 8) pe_int) pe_int) pa_nil)))))) pk_nil))
      (pss_cons (ps_set (i := 12) sc_law.nd rfl (Or.inl rfl) (vx_callX c_borders pat_borders_0 (.head _) hr (by decide) takes0 rfl (pa_cons (pv 9) (pa_cons (pv 5) (pa_cons (pv 6) (pa_cons (pv 4) pa_nil)))) (pk_cons (pv 7) (pk_cons (pe_op op_fdivW (pe_op op_add (pv 8) pe_int) pe_int) pk_nil))))
      (pss_cons (ps_if (PW.pt (pw_or (pt_not (pt_val (pe_callB call_isi (by rfl) T.b_isinstance (by decide +kernel) (pa_cons (pv 12) (pa_cons (pe_bltn (v := V.ty "tuple") (u := Value.type "tuple") (by rfl) T.b_tuple (by decide +kernel) rfl) pa_nil))))) (pw_or (pt_cmpR (op_neT (encOk_T3 (encOk_L encOk_int) (encOk_L encOk_int) encOk_int) hr.units) (pv 12) (pv 11) (nomark _)) (pw_or1 (pt_cmpR (op_neT (encOk_L (encOk_L encOk_int)) hr.units) (pv 9) (pv 10) (nomark _)))))) (pss_one (ps_ret pe_bl)) pss_nil)
      (pss_cons (ps_expr (pe_bm PySem.F.plainAttrs_list PySem.F.slot_list_append PySem.F.type_list_append mt_append (pe_ix (ix_tupK (K := K)) (pv 12) pe_int (fun _ _ => rfl)) (pa_cons pe_int pa_nil)))
      (pss_cons (ps_if (PW.pt (pw_or (pt_cmpR (op_neT (encOk_L encOk_int) hr.units) (pe_ix (ix_tupK (K := K)) (pv 12) pe_int (fun _ _ => rfl)) (pe_op op_cat (pe_ix (ix_tupK (K := K)) (pv 11) pe_int (fun _ _ => rfl)) (pe_lst (pa_cons pe_int pa_nil))) (nomark _)) (pw_or1 (pt_cmpR (op_neT (encOk_L encOk_int) hr.units) (pe_ix (ix_tupK (K := K)) (pv 12) pe_int (fun _ _ => rfl)) (pe_ix (ix_tupK (K := K)) (pv 11) pe_int (fun _ _ => rfl)) (nomark _))))) (pss_one (ps_ret pe_bl)) pss_nil)
      (pss_cons (ps_asg (pe_un un_neg pe_int) (pg_sub (pe_ix (ix_tupK (K := K)) (pv 12) pe_int (fun _ _ => rfl)) pe_int set_list))
      (pss_cons (ps_if (PW.pt (pw_or (pt_cmpR (op_neT (encOk_L encOk_int) hr.units) (pe_ix (ix_tupK (K := K)) (pv 12) pe_int (fun _ _ => rfl)) (pe_op op_cat (pe_ix (ix_tupK (K := K)) (pv 11) pe_int (fun _ _ => rfl)) (pe_lst (pa_cons pe_int pa_nil))) (nomark _)) (pw_or1 (pt_cmpR (op_neT (encOk_L encOk_int) hr.units) (pe_ix (ix_tupK (K := K)) (pv 12) pe_int (fun _ _ => rfl)) (pe_op op_cat (pe_lst (pa_cons (pe_un un_neg pe_int) pa_nil)) (pe_slice (sl_listK (K := K)) (pe_ix (ix_tupK (K := K)) (pv 11) pe_int (fun _ _ => rfl)) (po_some pe_int) po_none)) (nomark _))))) (pss_one (ps_ret pe_bl)) pss_nil)
      (pss_cons (ps_set (i := 13) sc_law.nd rfl (Or.inl rfl) (vx_callX c_borders pat_borders_0 (.head _) hr (by decide) takes0 rfl (pa_cons (pv 9) (pa_cons (pv 5) (pa_cons (pv 6) (pa_cons (pv 4) pa_nil)))) (pk_cons (pv 7) (pk_cons (pe_op op_fdivW (pe_op op_add (pv 8) pe_int) pe_int) pk_nil))))
      (pss_one (ps_ret (pe_and (pe_cmpR (op_eqT (encOk_T3 (encOk_L encOk_int) (encOk_L encOk_int) encOk_int) hr.units) (pv 13) (pv 11) (nomark _)) (pe_and (pe_cmpR (op_eqT (encOk_L (encOk_L encOk_int)) hr.units) (pv 9) (pv 10) (nomark _)) (pe_and (pe_callB call_isi (by rfl) T.b_isinstance (by decide +kernel) (pa_cons (pe_ix (ix_tupK (K := K)) (pv 13) pe_int (fun _ _ => rfl)) (pa_cons (pe_bltn (v := V.ty "list") (u := Value.type "list") (by rfl) T.b_list (by decide +kernel) rfl) pa_nil))) (pe_one (pe_callB call_isi (by rfl) T.b_isinstance (by decide +kernel) (pa_cons (pe_ix (ix_tupK (K := K)) (pv 13) pe_int (fun _ _ => rfl)) (pa_cons (pe_bltn (v := V.ty "list") (u := Value.type "list") (by rfl) T.b_list (by decide +kernel) rfl) pa_nil)))))))))))))))))))))))))))), ?_⟩
    obtain ⟨KK, EE, hK0, hE, hw⟩ := cW_gen hw
    have S0 := Sep.start0 H
    unfold F_law at hw
    refine ⟨_, rfl, rfl, rfl, H, _, _, _, rfl, S0.sG, (S0.b0.seq q_script), cW_call hw (fun v1397 hw => ?_) (fun e he => (hE e he).elim)⟩
    refine ⟨(by show 8 ≤ sizeLine; decide), fun p1398 n1399 => ?_⟩
    generalize g1400 : upd H p1398 _ = H1401
    obtain ⟨e1402, h1403⟩ := gen_new n1399 g1400
    have h1404 : H1401 p1398 = some (.lst (([6, 6, 2, 24, 24, 4, 24, 5] : (List Int)).map V.int)) := h1403
    have fr1405 := S0.free n1399
    have S1406 := S0.new n1399 e1402 h1404 fr1405
    refine ⟨rfl, rfl, H, _, _, _, rfl, S1406.sG, (hide_nil h1404), cW_call hw (fun v1407 hw p1410 H1408 n1411 e1409 h1412 => ?_) (fun e he => (hE e he).elim)⟩
    have h1413 : H1408 p1410 = some (.lst ((v1407 : (List Int)).map V.int)) := h1412
    have fr1414 := S1406.free n1411
    have S1415 := S1406.new n1411 e1409 h1413 fr1414
    obtain ⟨g1416, hw⟩ := cW_grd hw
    refine ⟨_, rfl, _, _, _, _, rfl, rfl, (SqL.of h1413), (atI_map g1416), _, _, rfl, rfl, (.inl ⟨by decide, by decide⟩), _, _, rfl, rfl, ?_⟩
    have hw := cW_bnd hw
    obtain ⟨g1418, hw⟩ := cW_grd hw
    refine ⟨_, rfl, _, _, _, _, rfl, rfl, (SqL.of h1413), (atI_map g1418), _, _, rfl, rfl, (.inl ⟨by decide, by decide⟩), _, _, rfl, rfl, ?_⟩
    have hw := cW_bnd hw
    refine ⟨fun σ H' => ∃ (n_1425 : Int) (G' : Hp), σ = [some (V.ref a_script), some (V.ref p1410), some (V.int ((4 + (4 * (itD (v1407) (0)))))), some (V.int ((4 + (4 * (itD (v1407) (1)))))), some (V.int n_1425), none, none, none, none, none, none, none, none, none, none] ∧ Same H G' ∧ Sep [] H H G' H' [p1410] ∧ H' p1410 = some (.lst ((v1407 : (List Int)).map V.int)) ∧ cW (F_law_k1 (script') (v1407) ((4 + (4 * (itD (v1407) (0))))) ((4 + (4 * (itD (v1407) (1))))) n_1425) KK EE, ?_, ?_⟩
    · obtain ⟨K1426, hK1427, hw⟩ := cW_push hw
      obtain ⟨g1428, hw⟩ := cW_grd hw
      refine ⟨_, rfl, _, _, _, _, rfl, rfl, (SqL.of h1413), (atI_map g1428), _, _, rfl, rfl, _, rfl, ?_⟩
      refine iteD (fun c1429 => ?_) (fun c1429 => ?_)
      · have hw := cW_pos c1429 hw
        refine ⟨_, rfl, _, _, rfl, rfl, _, rfl, ?_⟩
        refine iteD (fun c1430 => ?_) (fun c1430 => ?_)
        · have hw := cW_pos c1430 hw
          refine ⟨_, rfl, _, _, rfl, rfl, _, rfl, ?_⟩
          refine iteD (fun c1431 => ?_) (fun c1431 => ?_)
          · have hw := cW_pos c1431 hw
            have hw := cW_ok hw
            have hw := hK1427 _ hw
            exact ⟨(8), _, rfl, (Same.refl _), (S1415.sub (all_cons (.head _) all_nil)), h1413, hw⟩
          · have hw := cW_neg c1431 hw
            have hw := cW_ok hw
            have hw := hK1427 _ hw
            exact ⟨(4), _, rfl, (Same.refl _), (S1415.sub (all_cons (.head _) all_nil)), h1413, hw⟩
        · have hw := cW_neg c1430 hw
          refine iteF ?_
          have hw := cW_ok hw
          have hw := hK1427 _ hw
          exact ⟨(4), _, rfl, (Same.refl _), (S1415.sub (all_cons (.head _) all_nil)), h1413, hw⟩
      · have hw := cW_neg c1429 hw
        refine iteF ?_
        have hw := cW_ok hw
        have hw := hK1427 _ hw
        exact ⟨(4), _, rfl, (Same.refl _), (S1415.sub (all_cons (.head _) all_nil)), h1413, hw⟩
    · intro σ H1432 hw
      obtain ⟨n_1425, G1435, rfl, eG1436, S1433, h1434, hw⟩ := hw
      unfold F_law_k1 at hw
      obtain ⟨g1437, hw⟩ := cW_grd hw
      refine ⟨_, rfl, _, _, _, _, rfl, rfl, (SqL.of h1434), (atI_map g1437), .inl ⟨_, rfl, ?_⟩⟩
      obtain ⟨g1438, hw⟩ := cW_grd hw
      refine ⟨_, rfl, _, rfl, _, _, rfl, rfl, _, _, rfl, rfl, _, _, rfl, rfl, g1438, ?_⟩
      have hw := cW_bnd hw
      obtain ⟨g1440, hw⟩ := cW_grd hw
      refine ⟨_, rfl, _, _, _, _, rfl, rfl, (SqL.of h1434), (atI_map g1440), .inl ⟨_, rfl, ?_⟩⟩
      obtain ⟨g1441, hw⟩ := cW_grd hw
      refine ⟨_, rfl, _, rfl, _, _, rfl, rfl, _, _, rfl, rfl, _, _, rfl, rfl, g1441, ?_⟩
      have hw := cW_bnd hw
      obtain ⟨g1443, hw⟩ := cW_grd hw
      refine ⟨_, rfl, _, rfl, _, _, _, _, rfl, rfl, (SqL.of h1434), (atI_map g1443), .inl ⟨_, rfl, ?_⟩⟩
      obtain ⟨g1444, hw⟩ := cW_grd hw
      refine ⟨_, rfl, _, _, rfl, rfl, _, _, rfl, rfl, g1444, _, rfl, (by show 4 ≤ sizeLine; decide), fun p1445 n1446 => ?_⟩
      generalize g1447 : upd H1432 p1445 _ = H1448
      obtain ⟨e1449, h1450⟩ := gen_new n1446 g1447
      have h1451 : H1448 p1445 = some (.lst (([((itD (v1407) (4)) % (((4 + (4 * (itD (v1407) (1)))) - n_1425) + 1)), 0, ((itD (v1407) (6)) % (((itD (v1407) (4)) % (((4 + (4 * (itD (v1407) (1)))) - n_1425) + 1)) + 1)), ((itD (v1407) (4)) % (((4 + (4 * (itD (v1407) (1)))) - n_1425) + 1))] : (List Int)).map V.int)) := h1450
      have fr1452 := S1433.free n1446
      have S1453 := S1433.new n1446 e1449 h1451 fr1452
      obtain ⟨g1454, hw⟩ := cW_grd hw
      have h1455 := (e1449 _ _ h1434)
      obtain ⟨g1456, hw⟩ := cW_grd hw
      refine ⟨_, rfl, _, _, _, _, rfl, rfl, (SqL.of h1455), (atI_map g1454), _, _, _, _, rfl, rfl, (SqL.of h1451), (atI_map g1456), ?_⟩
      have hw := cW_bnd hw
      obtain ⟨g1458, hw⟩ := cW_grd hw
      obtain ⟨g1459, hw⟩ := cW_grd hw
      refine ⟨_, rfl, _, _, _, _, rfl, rfl, (SqL.of h1455), (atI_map g1458), _, _, rfl, rfl, _, _, rfl, rfl, (shl_side g1459.1 g1459.2.1 g1459.2.2.1 g1459.2.2.2), _, _, rfl, rfl, ?_⟩
      have hw := cW_bnd hw
      refine ⟨_, rfl, rfl, rfl, G1435, _, _, _, rfl, S1453.sG, (S1453.b0.seq q_script), cW_call hw (fun v1461 hw => ?_) (fun e he => (hE e he).elim)⟩
      refine ⟨_, rfl, _, rfl, _, rfl, rfl, rfl, G1435, _, _, _, _, rfl, S1453.sG, cW_call hw (fun v1462 hw v1465 H1463 G1466 e1464 eG1467 sG1468 hn1469 r1470 => ?_) (fun e he => (hE e he).elim)⟩
      have S1471 := S1453.step e1464 eG1467 sG1468 hn1469
      obtain ⟨a1472, vs1473, rfl, h1474, d1475⟩ := rp_list r1470
      obtain ⟨K1477, hK1478, hw⟩ := cW_push hw
      refine ⟨_, rfl, _, rfl, ⟨_, (SqL.of (S1471.sG _ _ h1474))⟩, fun D1479 n1480 => lc_list (K := K) (a := a1472) (xs := vs1473) (fun i H' => ∃ (G' : Hp) (acc1481 : (List (List Int))) (vs1482 : List V), Same G1466 G' ∧ Sep [] H H G' H' [D1479, p1410] ∧ H' p1410 = some (.lst ((v1407 : (List Int)).map V.int)) ∧ H' D1479 = some (.lst vs1482) ∧ RpAll G' vs1482 ((acc1481 : (List (List Int))).map (encL PyData.int)) ∧ cW (mapA (List.drop i (v1462)) acc1481 (fun x => noEr (F_law_c2  x))) K1477 EE) ?_ ?_ ?_ ?_⟩
      · generalize g1483 : upd H1463 D1479 _ = H1484
        obtain ⟨e1485, h1486⟩ := gen_new n1480 g1483
        have fr1487 := S1471.free n1480
        have S1488 := S1471.new n1480 e1485 h1486 fr1487
        have h1489 := (e1485 _ _ (e1464 _ _ h1455))
        exact ⟨_, [], [], Same.refl _, (S1488.sub (all_cons (.head _) (all_cons (.tail _ (.tail _ (.head _))) all_nil))), h1489, h1486, RpAll.nil, hw⟩
      · intro i H1490 _ hw
        obtain ⟨G1493, acc1495, vs1496, eG1494, S1491, h1498, h1492, d1497, hw⟩ := hw
        exact (SqL.of (S1491.sG _ _ (eG1494 _ _ h1474)))
      · intro i x H1499 hj hw
        obtain ⟨G1502, acc1504, vs1505, eG1503, S1500, h1507, h1501, d1506, hw⟩ := hw
        obtain ⟨x1508, hx, r1509⟩ := RpAll.get (RpAll.mono eG1503 d1475) hj
        obtain ⟨a1510, rfl, h1511⟩ := rp_ints r1509
        obtain ⟨z1512, hw⟩ := cW_mapA hx hw
        have hw := cW_noEr hw
        have hw : cW (F_law_c2  (x1508)) _ (fun _ => False) := hw
        unfold F_law_c2 at hw
        refine ⟨rfl, ?_⟩
        refine tyes_go ?_
        refine ⟨_, rfl, _, _, rfl, (SqL.of (S1500.sG _ _ h1511)), fun p1514 n1515 => ?_⟩
        generalize g1516 : upd H1499 p1514 _ = H1517
        obtain ⟨e1518, h1519⟩ := gen_new n1515 g1516
        have h1520 : H1517 p1514 = some (.lst ((x1508 : (List Int)).map V.int)) := h1519
        have fr1521 := S1500.free n1515
        have S1522 := S1500.new n1515 e1518 h1520 fr1521
        obtain ⟨G1523, eG1524, hg1525, S1526⟩ := Sep.freeze (O' := [D1479, p1410]) S1522 (.head _) h1520 fr1521 ((all_cons ⟨(.tail _ (.head _)), (ne_of_none h1501 n1515)⟩ (all_cons ⟨(.tail _ (.tail _ (.head _))), (ne_of_none h1507 n1515)⟩ all_nil)))
        have h1527 := (e1518 _ _ h1501)
        refine ⟨_, h1527, (app_len (RpAll.mono eG1524 d1506) z1512), ?_⟩
        generalize g1528 : upd H1517 D1479 _ = H1529
        obtain ⟨x1530, h1531⟩ := gen_mut g1528
        have S1532 := S1526.mut1 x1530 (.head _) h1531
        have hw := cW_ok hw
        have h1533 := (x1530 _ _ (e1518 _ _ h1507) (ne_of_none (e1464 _ _ h1455) n1480))
        exact ⟨_, (acc1504 ++ [x1508]), _, (Same.trans eG1503 eG1524), S1532, h1533, h1531, (app_map (RpAll.mono eG1524 d1506) (RpAll.one (rp_mk_ints hg1525))), hw⟩
      intro H1534 hw
      obtain ⟨G1537, acc1539, vs1540, eG1538, S1535, h1542, h1536, d1541, hw⟩ := hw
      have hw := hK1478 _ (cW_mapA0 (by rw [(RpAll.mono eG1538 d1475).len, List.length_map]) hw)
      have fr1543 := S1471.free n1480
      obtain ⟨G1544, eG1545, hg1546, S1547⟩ := Sep.freeze (O' := [p1410]) S1535 (.head _) h1536 fr1543 ((all_cons ⟨(.tail _ (.head _)), (ne_of_none (e1464 _ _ h1455) n1480)⟩ all_nil))
      refine ⟨_, rfl, _, rfl, _, rfl, _, rfl, _, rfl, _, rfl, _, _, rfl, rfl, _, _, rfl, rfl, (divW_lit (by decide) (by decide)), rfl, rfl, G1544, _, _, _, _, _, _, _, rfl, S1547.sG, (rp_mk_list hg1546 (RpAll.mono eG1545 d1541)), cW_call hw (fun v1548 hw v1551 H1549 G1552 e1550 eG1553 sG1554 hn1555 r1556 => ?_) (fun e he => (hE e he).elim)⟩
      have S1557 := S1547.step e1550 eG1553 sG1554 hn1555
      obtain ⟨a1558, v1560, v1561, v1562, rfl, h1559, r1563, r1564, r1565⟩ := rp_tup3 r1556
      obtain ⟨a1566, rfl, h1567⟩ := rp_ints r1563
      obtain ⟨a1568, rfl, h1569⟩ := rp_ints r1564
      obtain rfl := rp_int r1565
      refine ⟨_, rfl, _, rfl, _, rfl, _, rfl, _, rfl, _, rfl, _, _, rfl, rfl, _, _, rfl, rfl, (divW_lit (by decide) (by decide)), rfl, rfl, G1552, _, _, _, _, _, _, _, rfl, S1557.sG, (rp_mk_list (eG1553 _ _ (eG1545 _ _ (eG1538 _ _ h1474))) (RpAll.mono eG1553 (RpAll.mono eG1545 (RpAll.mono eG1538 d1475)))), cW_call hw (fun v1570 hw H1571 p1573 l1574 l1575 e1572 n1576 n1577 n1578 ne1582 h1579 h1580 h1581 => ?_) (fun e he => (hE e he).elim)⟩
      have fr1583 := S1557.free n1576
      have fr1584 := S1557.free n1577
      have fr1585 := S1557.free n1578
      have S1586 : Sep _ _ _ _ H1571 [p1573, l1574, l1575, p1410] := Sep.news S1557 e1572 [p1573, l1574, l1575] (all_cons ⟨n1576, some_ne h1579, fr1583⟩ (all_cons ⟨n1577, some_ne h1580, fr1584⟩ (all_cons ⟨n1578, some_ne h1581, fr1585⟩ all_nil)))
      refine ⟨_, rfl, _, _, _, _, _, rfl, (.ty _), (.base (.tup h1579)), rfl, _, rfl, ?_⟩
      refine iteF ?_
      refine ⟨_, rfl, _, rfl, _, _, (rp_mk3 h1579 (rp_mk_ints h1580) (rp_mk_ints h1581) (.int _)), (rp_mk3 (S1586.sG _ _ h1559) (rp_mk_ints (S1586.sG _ _ h1567)) (rp_mk_ints (S1586.sG _ _ h1569)) (.int _)), _, rfl, ?_⟩
      refine iteN (fun c1587 => ?_) (fun c1587 => ?_)
      · have hw := cW_neg c1587 hw
        refine iteT ?_
        have hw := cW_ok hw
        exact eq_bl (k _) (hK0 _ hw).symm
      · have hw := cW_pos c1587 hw
        refine ⟨_, rfl, _, rfl, _, _, (rp_mk_list (S1586.sG _ _ (eG1553 _ _ (eG1545 _ _ (eG1538 _ _ h1474)))) (RpAll.mono S1586.sG (RpAll.mono eG1553 (RpAll.mono eG1545 (RpAll.mono eG1538 d1475))))), (rp_mk_list (S1586.sG _ _ (eG1553 _ _ hg1546)) (RpAll.mono S1586.sG (RpAll.mono eG1553 (RpAll.mono eG1545 d1541)))), _, rfl, ?_⟩
        refine iteN (fun c1588 => ?_) (fun c1588 => ?_)
        · have hw := cW_neg c1588 hw
          have hw := cW_ok hw
          exact eq_bl (k _) (hK0 _ hw).symm
        · have hw := cW_pos c1588 hw
          obtain ⟨g1589, hw⟩ := cW_grd hw
          refine ⟨_, rfl, _, _, _, _, rfl, rfl, (SqT.of h1579), rfl, (.inl ⟨rfl, _, SqL.of h1580⟩), _, _, _, rfl, rfl, h1580, (app_lenM g1589), ?_⟩
          generalize g1590 : upd H1571 l1574 _ = H1591
          obtain ⟨x1592, h1593⟩ := gen_mut g1590
          have h1594 : H1591 l1574 = some (.lst (((v1570.1) ++ [1] : (List Int)).map V.int)) := snoc_map h1593
          have S1595 := S1586.mut1 x1592 (.tail _ (.head _)) h1594
          have hw := cW_bnd hw
          have h1597 := (x1592 _ _ h1579 (ne_of h1579 h1580 (fun z => nomatch z)))
          refine ⟨_, rfl, _, _, _, _, rfl, rfl, (SqT.of h1597), rfl, _, rfl, _, _, _, _, rfl, rfl, (SqT.of (S1595.sG _ _ h1559)), rfl, (by show 1 ≤ sizeLine; decide), fun p1598 n1599 => ?_⟩
          generalize g1600 : upd H1591 p1598 _ = H1601
          obtain ⟨e1602, h1603⟩ := gen_new n1599 g1600
          have h1604 : H1601 p1598 = some (.lst (([1] : (List Int)).map V.int)) := h1603
          have fr1605 := S1595.free n1599
          have S1606 := S1595.new n1599 e1602 h1604 fr1605
          obtain ⟨g1607, hw⟩ := cW_grd hw
          refine ⟨_, _, _, _, rfl, rfl, (S1606.sG _ _ h1567), h1604, (cat_lenM g1607), fun p1608 n1609 => ?_⟩
          generalize g1610 : upd H1601 p1608 _ = H1611
          obtain ⟨e1612, h1613⟩ := gen_new n1609 g1610
          have h1614 : H1611 p1608 = some (.lst (((v1548.1) ++ ([1]) : (List Int)).map V.int)) := cat_map h1613
          have fr1615 := S1606.free n1609
          have S1616 := S1606.new n1609 e1612 h1614 fr1615
          have h1617 := (e1612 _ _ (e1602 _ _ h1594))
          refine ⟨_, _, (rp_mk_ints h1617), (rp_mk_ints h1614), _, rfl, ?_⟩
          refine iteN (fun c1618 => ?_) (fun c1618 => ?_)
          · have hw := cW_neg c1618 hw
            refine iteT ?_
            have hw := cW_ok hw
            exact eq_bl (k _) (hK0 _ hw).symm
          · have hw := cW_pos c1618 hw
            have h1619 := (e1612 _ _ (e1602 _ _ h1597))
            have h1620 := (e1612 _ _ (e1602 _ _ (x1592 _ _ h1581 (ne1582).symm)))
            refine ⟨_, rfl, _, _, _, _, rfl, rfl, (SqT.of h1619), rfl, _, rfl, _, _, _, _, rfl, rfl, (SqT.of (S1616.sG _ _ h1559)), rfl, _, _, (rp_mk_ints h1620), (rp_mk_ints (S1616.sG _ _ h1569)), _, rfl, ?_⟩
            refine iteN (fun c1621 => ?_) (fun c1621 => ?_)
            · have hw := cW_neg c1621 hw
              have hw := cW_ok hw
              exact eq_bl (k _) (hK0 _ hw).symm
            · have hw := cW_pos c1621 hw
              obtain ⟨g1622, hw⟩ := cW_grd hw
              refine ⟨_, rfl, _, rfl, _, _, _, _, rfl, rfl, (SqT.of h1619), rfl, _, _, _, _, rfl, rfl, h1620, (ixN_map g1622), ?_⟩
              generalize g1623 : upd H1611 l1575 _ = H1624
              obtain ⟨x1625, h1626⟩ := gen_mut g1623
              have h1627 : H1624 l1575 = some (.lst ((setL (v1570.2.1) (0) ((-5)) : (List Int)).map V.int)) := set_map h1626
              have S1628 := S1616.mut1 x1625 (.tail _ (.tail _ (.tail _ (.tail _ (.head _))))) h1627
              have hw := cW_bnd hw
              have h1630 := (x1625 _ _ h1619 (ne_of h1619 h1620 (fun z => nomatch z)))
              refine ⟨_, rfl, _, _, _, _, rfl, rfl, (SqT.of h1630), rfl, _, rfl, _, _, _, _, rfl, rfl, (SqT.of (S1628.sG _ _ h1559)), rfl, (by show 1 ≤ sizeLine; decide), fun p1631 n1632 => ?_⟩
              generalize g1633 : upd H1624 p1631 _ = H1634
              obtain ⟨e1635, h1636⟩ := gen_new n1632 g1633
              have h1637 : H1634 p1631 = some (.lst (([1] : (List Int)).map V.int)) := h1636
              have fr1638 := S1628.free n1632
              have S1639 := S1628.new n1632 e1635 h1637 fr1638
              obtain ⟨g1640, hw⟩ := cW_grd hw
              refine ⟨_, _, _, _, rfl, rfl, (S1639.sG _ _ h1567), h1637, (cat_lenM g1640), fun p1641 n1642 => ?_⟩
              generalize g1643 : upd H1634 p1641 _ = H1644
              obtain ⟨e1645, h1646⟩ := gen_new n1642 g1643
              have h1647 : H1644 p1641 = some (.lst (((v1548.1) ++ ([1]) : (List Int)).map V.int)) := cat_map h1646
              have fr1648 := S1639.free n1642
              have S1649 := S1639.new n1642 e1645 h1647 fr1648
              have h1650 := (e1645 _ _ (e1635 _ _ (x1625 _ _ h1617 ne1582)))
              refine ⟨_, _, (rp_mk_ints h1650), (rp_mk_ints h1647), _, rfl, ?_⟩
              refine iteN (fun c1651 => ?_) (fun c1651 => ?_)
              · have hw := cW_neg c1651 hw
                refine iteT ?_
                have hw := cW_ok hw
                exact eq_bl (k _) (hK0 _ hw).symm
              · have hw := cW_pos c1651 hw
                have h1652 := (e1645 _ _ (e1635 _ _ h1630))
                refine ⟨_, rfl, _, _, _, _, rfl, rfl, (SqT.of h1652), rfl, _, rfl, (by show 1 ≤ sizeLine; decide), fun p1653 n1654 => ?_⟩
                generalize g1655 : upd H1644 p1653 _ = H1656
                obtain ⟨e1657, h1658⟩ := gen_new n1654 g1655
                have h1659 : H1656 p1653 = some (.lst (([(-5)] : (List Int)).map V.int)) := h1658
                have fr1660 := S1649.free n1654
                have S1661 := S1649.new n1654 e1657 h1659 fr1660
                refine ⟨_, rfl, _, _, _, _, rfl, rfl, (SqT.of (S1661.sG _ _ h1559)), rfl, _, rfl, _, _, rfl, (SqL.of (S1661.sG _ _ h1569)), fun p1662 n1663 => ?_⟩
                generalize g1664 : upd H1656 p1662 _ = H1665
                obtain ⟨e1666, h1667⟩ := gen_new n1663 g1664
                have h1668 : H1665 p1662 = some (.lst ((cutL (v1548.2.1) (some (1)) none : (List Int)).map V.int)) := cut_map h1667
                have fr1669 := S1661.free n1663
                have S1670 := S1661.new n1663 e1666 h1668 fr1669
                obtain ⟨g1671, hw⟩ := cW_grd hw
                have h1672 := (e1666 _ _ h1659)
                refine ⟨_, _, _, _, rfl, rfl, h1672, h1668, (cat_lenM g1671), fun p1673 n1674 => ?_⟩
                generalize g1675 : upd H1665 p1673 _ = H1676
                obtain ⟨e1677, h1678⟩ := gen_new n1674 g1675
                have h1679 : H1676 p1673 = some (.lst ((([(-5)]) ++ (cutL (v1548.2.1) (some (1)) none) : (List Int)).map V.int)) := cat_map h1678
                have fr1680 := S1670.free n1674
                have S1681 := S1670.new n1674 e1677 h1679 fr1680
                have h1682 := (e1677 _ _ (e1666 _ _ (e1657 _ _ (e1645 _ _ (e1635 _ _ h1627)))))
                refine ⟨_, _, (rp_mk_ints h1682), (rp_mk_ints h1679), _, rfl, ?_⟩
                refine iteN (fun c1683 => ?_) (fun c1683 => ?_)
                · have hw := cW_neg c1683 hw
                  have hw := cW_ok hw
                  exact eq_bl (k _) (hK0 _ hw).symm
                · have hw := cW_pos c1683 hw
                  refine ⟨_, rfl, _, rfl, _, rfl, _, rfl, _, rfl, _, rfl, _, _, rfl, rfl, _, _, rfl, rfl, (divW_lit (by decide) (by decide)), rfl, rfl, G1552, _, _, _, _, _, _, _, rfl, S1681.sG, (rp_mk_list (eG1553 _ _ (eG1545 _ _ (eG1538 _ _ h1474))) (RpAll.mono eG1553 (RpAll.mono eG1545 (RpAll.mono eG1538 d1475)))), cW_call hw (fun v1684 hw H1685 p1687 l1688 l1689 e1686 n1690 n1691 n1692 ne1696 h1693 h1694 h1695 => ?_) (fun e he => (hE e he).elim)⟩
                  have fr1697 := S1681.free n1690
                  have fr1698 := S1681.free n1691
                  have fr1699 := S1681.free n1692
                  have S1700 : Sep _ _ _ _ H1685 [p1687, l1688, l1689, p1673, p1662, p1653, p1641, p1631, p1608, p1598, p1573, l1574, l1575, p1410] := Sep.news S1681 e1686 [p1687, l1688, l1689] (all_cons ⟨n1690, some_ne h1693, fr1697⟩ (all_cons ⟨n1691, some_ne h1694, fr1698⟩ (all_cons ⟨n1692, some_ne h1695, fr1699⟩ all_nil)))
                  refine ⟨_, rfl, _, rfl, _, _, (rp_mk3 h1693 (rp_mk_ints h1694) (rp_mk_ints h1695) (.int _)), (rp_mk3 (S1700.sG _ _ h1559) (rp_mk_ints (S1700.sG _ _ h1567)) (rp_mk_ints (S1700.sG _ _ h1569)) (.int _)), _, rfl, ?_⟩
                  refine iteB (fun c1701 => ?_) (fun c1701 => ?_)
                  · have hw := cW_pos c1701 hw
                    refine ⟨_, rfl, _, rfl, _, _, (rp_mk_list (S1700.sG _ _ (eG1553 _ _ (eG1545 _ _ (eG1538 _ _ h1474)))) (RpAll.mono S1700.sG (RpAll.mono eG1553 (RpAll.mono eG1545 (RpAll.mono eG1538 d1475))))), (rp_mk_list (S1700.sG _ _ (eG1553 _ _ hg1546)) (RpAll.mono S1700.sG (RpAll.mono eG1553 (RpAll.mono eG1545 d1541)))), _, rfl, ?_⟩
                    refine iteB (fun c1702 => ?_) (fun c1702 => ?_)
                    · have hw := cW_pos c1702 hw
                      refine ⟨_, rfl, _, _, _, _, rfl, rfl, (SqT.of h1693), rfl, _, _, _, _, _, rfl, (.ty _), (.base (.lst h1694)), rfl, _, rfl, ?_⟩
                      refine iteT ?_
                      refine ⟨_, rfl, _, _, _, _, rfl, rfl, (SqT.of h1693), rfl, _, _, _, _, _, rfl, (.ty _), (.base (.lst h1695)), rfl, ?_⟩
                      have hw := cW_ok hw
                      exact eq_bl (k _) (hK0 _ hw).symm
                    · have hw := cW_negB c1702 hw
                      have hw := cW_ok hw
                      exact eq_bl (k _) (hK0 _ hw).symm
                  · have hw := cW_negB c1701 hw
                    have hw := cW_ok hw
                    exact eq_bl (k _) (hK0 _ hw).symm
end
def spL (K : PySem.W.Frag) : Sp := fun vs H Q _ => ∃ (a_script : Addr) (script : List Int), vs = [.ref a_script] ∧ SqL K H a_script (script.map V.int) ∧ script.length ≤ 63 ∧ ∀ H', Q (.bl true) H'
theorem all_mk {l : PySem.W.OpenLaw} {w : World} {K : PySem.W.Frag} {h : Heap} {mg : Str → Option Value} {fa : Addr} (X : K.In h) (G : h.Ns mainGlobals mg) (hfa : mg "law" = some (.ref fa))
    {f0 f1 f2 f3 f4 f5 : Addr} {od0 an0 od1 an1 od2 an2 od3 an3 od4 an4 od5 an5 : Option Addr} {sl0 sl1 sl2 sl3 sl4 sl5 : Array (Option Value)} {oc0 kV0 dc0 pm0 cd0 ct0 oc1 kV1 dc1 pm1 cd1 ct1 oc2 kV2 dc2 pm2 cd2 ct2 oc3 kV3 dc3 pm3 cd3 ct3 oc4 kV4 dc4 pm4 cd4 ct4 oc5 kV5 dc5 pm5 cd5 ct5 : Value}
    (a0 : PySem.W.nsIn K mainGlobals "_law_draws" = some (some (.ref f0))) (l0 : K.lookup f0 = some ⟨oc0, od0, .func (PySem.W.fnOf "_law_draws" "_law_draws" (defArgs s__law_draws) (defBody s__law_draws) (defScope s__law_draws) .none kV0 dc0 pm0 an0 cd0 ct0), sl0⟩) (c0 : PySem.W.codeIn K cd0 "_law_draws" = true) (k0 : PySem.W.keepIn K (.ref f0) = true) (a1 : PySem.W.nsIn K mainGlobals "_law_plane" = some (some (.ref f1))) (l1 : K.lookup f1 = some ⟨oc1, od1, .func (PySem.W.fnOf "_law_plane" "_law_plane" (defArgs s__law_plane) (defBody s__law_plane) (defScope s__law_plane) .none kV1 dc1 pm1 an1 cd1 ct1), sl1⟩) (c1 : PySem.W.codeIn K cd1 "_law_plane" = true) (k1 : PySem.W.keepIn K (.ref f1) = true) (a2 : PySem.W.nsIn K mainGlobals "_law_due" = some (some (.ref f2))) (l2 : K.lookup f2 = some ⟨oc2, od2, .func (PySem.W.fnOf "_law_due" "_law_due" (defArgs s__law_due) (defBody s__law_due) (defScope s__law_due) .none kV2 dc2 pm2 an2 cd2 ct2), sl2⟩) (c2 : PySem.W.codeIn K cd2 "_law_due" = true) (k2 : PySem.W.keepIn K (.ref f2) = true) (a3 : PySem.W.nsIn K mainGlobals "borders" = some (some (.ref f3))) (l3 : K.lookup f3 = some ⟨oc3, od3, .func (PySem.W.fnOf "borders" "borders" (defArgs s_borders) (defBody s_borders) (defScope s_borders) .none kV3 dc3 pm3 an3 cd3 ct3), sl3⟩) (c3 : PySem.W.codeIn K cd3 "borders" = true) (k3 : PySem.W.keepIn K (.ref f3) = true) (a4 : PySem.W.nsIn K mainGlobals "_law_cell" = some (some (.ref f4))) (l4 : K.lookup f4 = some ⟨oc4, od4, .func (PySem.W.fnOf "_law_cell" "_law_cell" (defArgs s__law_cell) (defBody s__law_cell) (defScope s__law_cell) .none kV4 dc4 pm4 an4 cd4 ct4), sl4⟩) (c4 : PySem.W.codeIn K cd4 "_law_cell" = true) (k4 : PySem.W.keepIn K (.ref f4) = true) (a5 : PySem.W.nsIn K mainGlobals "law" = some (some (.ref f5))) (l5 : K.lookup f5 = some ⟨oc5, od5, .func (PySem.W.fnOf "law" "law" (defArgs s_law) (defBody s_law) (defScope s_law) .none kV5 dc5 pm5 an5 cd5 ct5), sl5⟩) (c5 : PySem.W.codeIn K cd5 "law" = true) (k5 : PySem.W.keepIn K (.ref f5) = true)
    (z0 : PySem.W.nsIn K mainGlobals "abs" = some none) (z1 : PySem.W.nsIn K mainGlobals "int" = some none) (z2 : PySem.W.nsIn K mainGlobals "range" = some none) (z3 : PySem.W.nsIn K mainGlobals "len" = some none) (z4 : PySem.W.nsIn K mainGlobals "list" = some none) (z5 : PySem.W.nsIn K mainGlobals "isinstance" = some none) (z6 : PySem.W.nsIn K mainGlobals "tuple" = some none) :
    ∃ fd : FuncData, (∀ (s : Shared) (v : Value), BindsTo s fd ⟨[v], []⟩ [("script", v)]) ∧ ∀ base : Heap, K.In base → base.Ns mainGlobals mg → FnOk l.prog w K mg base CX0 3 fa fd ["script"] (spL K) := by
  have e := hfa.symm.trans (PySem.W.mg_of X G a5)
  cases e
  have T : Txt K mg ⟨fa⟩ := ⟨PySem.W.mg_none_of X G z0, PySem.W.mg_none_of X G z1, PySem.W.mg_none_of X G z2, PySem.W.mg_none_of X G z3, PySem.W.mg_none_of X G z4, PySem.W.mg_none_of X G z5, PySem.W.mg_none_of X G z6⟩
  have F0 : FunD K "_law_draws" "_law_draws" (defArgs s__law_draws) (defBody s__law_draws) (defScope s__law_draws) [] [] f0 _ := ⟨⟨_, _, _, _, _, _, _, _, _, _, rfl, l0, c0, .inl ⟨rfl, rfl⟩, .inl rfl⟩, k0⟩
  have D_0 : DefX K mg "_law_draws" s__law_draws ["cell", "limits"] pats__law_draws := ⟨_, _, _, _, F0, PySem.W.mg_of X G a0, (all_consQ (Bnd.all fun us ws vs zs l1 l2 r rz => by
      obtain ⟨u0, u1, rfl⟩ := len2 (r.length.symm.trans l1)
      obtain rfl := len0 (rz.length.symm.trans l2)
      cases r with | cons r0 r =>
        cases r with | cons r1 r =>
          cases r
          cases rz
          exact ⟨[u0, u1], rfl, (.cons r0 (.cons r1 .nil))⟩) all_nilQ)⟩
  have F1 : FunD K "_law_plane" "_law_plane" (defArgs s__law_plane) (defBody s__law_plane) (defScope s__law_plane) [] [] f1 _ := ⟨⟨_, _, _, _, _, _, _, _, _, _, rfl, l1, c1, .inl ⟨rfl, rfl⟩, .inl rfl⟩, k1⟩
  have D_1 : DefX K mg "_law_plane" s__law_plane ["cell", "width", "height", "top"] pats__law_plane := ⟨_, _, _, _, F1, PySem.W.mg_of X G a1, (all_consQ (Bnd.all fun us ws vs zs l1 l2 r rz => by
      obtain ⟨u0, u1, u2, u3, rfl⟩ := len4 (r.length.symm.trans l1)
      obtain rfl := len0 (rz.length.symm.trans l2)
      cases r with | cons r0 r =>
        cases r with | cons r1 r =>
          cases r with | cons r2 r =>
            cases r with | cons r3 r =>
              cases r
              cases rz
              exact ⟨[u0, u1, u2, u3], rfl, (.cons r0 (.cons r1 (.cons r2 (.cons r3 .nil))))⟩) all_nilQ)⟩
  have F2 : FunD K "_law_due" "_law_due" (defArgs s__law_due) (defBody s__law_due) (defScope s__law_due) [] [] f2 _ := ⟨⟨_, _, _, _, _, _, _, _, _, _, rfl, l2, c2, .inl ⟨rfl, rfl⟩, .inl rfl⟩, k2⟩
  have D_2 : DefX K mg "_law_due" s__law_due ["plane", "x", "y", "n", "first_row", "middle"] pats__law_due := ⟨_, _, _, _, F2, PySem.W.mg_of X G a2, (all_consQ (Bnd.all fun us ws vs zs l1 l2 r rz => by
      obtain ⟨u0, u1, u2, u3, u4, u5, rfl⟩ := len6 (r.length.symm.trans l1)
      obtain rfl := len0 (rz.length.symm.trans l2)
      cases r with | cons r0 r =>
        cases r with | cons r1 r =>
          cases r with | cons r2 r =>
            cases r with | cons r3 r =>
              cases r with | cons r4 r =>
                cases r with | cons r5 r =>
                  cases r
                  cases rz
                  exact ⟨[u0, u1, u2, u3, u4, u5], rfl, (.cons r0 (.cons r1 (.cons r2 (.cons r3 (.cons r4 (.cons r5 .nil))))))⟩) all_nilQ)⟩
  have F3 : FunD K "borders" "borders" (defArgs s_borders) (defBody s_borders) (defScope s_borders) [] [] f3 _ := ⟨⟨_, _, _, _, _, _, _, _, _, _, rfl, l3, c3, .inl ⟨rfl, rfl⟩, .inl rfl⟩, k3⟩
  have D_3 : DefX K mg "borders" s_borders ["plane", "x", "y", "n", "first_row", "middle"] pats_borders := ⟨_, _, _, _, F3, PySem.W.mg_of X G a3, (all_consQ (Bnd.all fun us ws vs zs l1 l2 r rz => by
      obtain ⟨u0, u1, u2, u3, rfl⟩ := len4 (r.length.symm.trans l1)
      obtain ⟨w0, w1, rfl⟩ := len2 (rz.length.symm.trans l2)
      cases r with | cons r0 r =>
        cases r with | cons r1 r =>
          cases r with | cons r2 r =>
            cases r with | cons r3 r =>
              cases r
              cases rz with | cons q0 rz =>
                cases rz with | cons q1 rz =>
                  cases rz
                  exact ⟨[u0, u1, u2, u3, w0, w1], rfl, (.cons r0 (.cons r1 (.cons r2 (.cons r3 (.cons q0 (.cons q1 .nil))))))⟩) all_nilQ)⟩
  have F4 : FunD K "_law_cell" "_law_cell" (defArgs s__law_cell) (defBody s__law_cell) (defScope s__law_cell) [] [] f4 _ := ⟨⟨_, _, _, _, _, _, _, _, _, _, rfl, l4, c4, .inl ⟨rfl, rfl⟩, .inl rfl⟩, k4⟩
  have D_4 : DefX K mg "_law_cell" s__law_cell ["script", "k"] pats__law_cell := ⟨_, _, _, _, F4, PySem.W.mg_of X G a4, (all_consQ (Bnd.all fun us ws vs zs l1 l2 r rz => by
      obtain ⟨u0, u1, rfl⟩ := len2 (r.length.symm.trans l1)
      obtain rfl := len0 (rz.length.symm.trans l2)
      cases r with | cons r0 r =>
        cases r with | cons r1 r =>
          cases r
          cases rz
          exact ⟨[u0, u1], rfl, (.cons r0 (.cons r1 .nil))⟩) all_nilQ)⟩
  have F5 := fun_mk (st := s_law) l5 c5 k5
  have R__law_draws : ∀ base : Heap, CalX l.prog w K mg base 1 "_law_draws" (sp__law_draws K ⟨fa⟩) pats__law_draws := fun base => ok__law_draws D_0 T 
  have R__law_plane : ∀ base : Heap, CalX l.prog w K mg base 2 "_law_plane" (sp__law_plane K ⟨fa⟩) pats__law_plane := fun base => ok__law_plane D_1 T (R__law_draws base)
  have R__law_due : ∀ base : Heap, CalX l.prog w K mg base 1 "_law_due" (sp__law_due K ⟨fa⟩) pats__law_due := fun base => ok__law_due D_2 T 
  have R_borders : ∀ base : Heap, CalX l.prog w K mg base 1 "borders" (sp_borders K ⟨fa⟩) pats_borders := fun base => ok_borders D_3 T 
  have R__law_cell : ∀ base : Heap, CalX l.prog w K mg base 1 "_law_cell" (sp__law_cell K ⟨fa⟩) pats__law_cell := fun base => ok__law_cell D_4 T 

  refine ⟨PySem.W.fnOf "law" "law" (defArgs s_law) (defBody s_law) (defScope s_law) .none kV5 dc5 pm5 an5 cd5 ct5, fun s v => .of_eq rfl, fun base _ _ => (ok_law (AD := ⟨fa⟩) F5 T (R__law_draws base) (R__law_cell base) (R__law_plane base) (R__law_due base) (R_borders base)).imp ?_⟩
  rintro vs H Q E ⟨a, xs, rfl, hs, hl, q⟩
  exact ⟨a, xs, rfl, hs, by rw [law_true xs hl]; rfl, q⟩
theorem walk {l : PySem.W.OpenLaw} {q : Program} {loose : List Str} {XP : (Str → Option Value) → Heap → Prop} {YP : World → Heap → Prop} {d : DefRec} {K : Params → PySem.W.Frag} (hn : l.most = some 63) (hdf : d.params.defaults = [])
    (hY : ∀ (w : World) (h : Heap), YP w h → (K w.params).In h)
    (F : ∀ (w : World) (mg : Str → Option Value) (fa : Addr) (h : Heap), (K w.params).In h → h.Ns mainGlobals mg → mg d.name = some (.ref fa) →
      ∃ fd : FuncData, (∀ (s : Shared) (u : Value), BindsTo s fd ⟨[u], []⟩ [("script", u)]) ∧ ∀ base : Heap, (K w.params).In base → base.Ns mainGlobals mg → FnOk l.prog w (K w.params) mg base CX0 3 fa fd ["script"] (spL (K w.params))) :
    PySem.W.WalkO q loose XP YP l.row.toRowW d [] (fun f vs => PySem.call f vs) :=
  L2.walk_of (n := 63) (k := 3) (x := "script") (CX := fun _ => CX0) (sp := fun w => spL (K w.params)) hn (by decide) hdf ⟨rfl, by decide, by decide⟩ hY F (fun _ _ a ns hl _ hS => ⟨a, ns, rfl, hS, hl, fun _ => rfl⟩) fun _ _ _ _ _ z => z
end Vx
open PySem PySem.W PyProof.Rows
set_option maxRecDepth 100000 in
set_option maxHeartbeats 0 in
theorem PySem.Challenge.cw_thaumatrope_k29_borders_of_areas_holds : PySem.Challenge.rw_thaumatrope_k29_borders_of_areas.Holds := by
  w_on; o_law; k_head; (case hw => w_witness2)
  k_fill
  refine Vx.walk (l := PySem.Challenge.rw_thaumatrope_k29_borders_of_areas) rfl rfl (fun w h Y => PySem.W.kIn_of Y) ?F
  case F =>
    intro w mg fa h KX G hmg
    refine' Vx.all_mk KX G hmg ?a0 ?l0 ?c0 ?k0 ?a1 ?l1 ?c1 ?k1 ?a2 ?l2 ?c2 ?k2 ?a3 ?l3 ?c3 ?k3 ?a4 ?l4 ?c4 ?k4 ?a5 ?l5 ?c5 ?k5 ?z0 ?z1 ?z2 ?z3 ?z4 ?z5 ?z6
    (case a0 => k_is)
    (case l0 => k_is)
    (case c0 => k_is)
    (case k0 => k_is)
    (case a1 => k_is)
    (case l1 => k_is)
    (case c1 => k_is)
    (case k1 => k_is)
    (case a2 => k_is)
    (case l2 => k_is)
    (case c2 => k_is)
    (case k2 => k_is)
    (case a3 => k_is)
    (case l3 => k_is)
    (case c3 => k_is)
    (case k3 => k_is)
    (case a4 => k_is)
    (case l4 => k_is)
    (case c4 => k_is)
    (case k4 => k_is)
    (case a5 => k_is)
    (case l5 => k_is)
    (case c5 => k_is)
    (case k5 => k_is)
    (case z0 => k_is)
    (case z1 => k_is)
    (case z2 => k_is)
    (case z3 => k_is)
    (case z4 => k_is)
    (case z5 => k_is)
    (case z6 => k_is)
